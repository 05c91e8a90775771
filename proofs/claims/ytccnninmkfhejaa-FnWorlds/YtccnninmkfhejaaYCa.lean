/-
  (*World).call by its contract. No statement is proved here.
-/
import Derived.Test.YtccnninmkfhejaaYFa
namespace Go.Proofs.Ytccnninmkfhejaa.By
open Go.RowKit
set_option linter.unusedVariables false
set_option linter.unusedSimpArgs false

def calOk (x : RWorld) (kind : Int) : Bool := decide (0 ≤ kind ∧ kind ≤ 4) && decide (x.trace.length < 20000)
/-- What a call leaves. -/
def CalR (w : World) (B q : Nat) (x : RWorld) (kind A C : Int) (lit : List Int) (e : Ending) (u : World) : Prop :=
  (calOk x kind = false ∧ e = .returned (.tuple #[.int .i64 0, .bool false]) ∧ w.grownBy u none) ∨
  (calOk x kind = true ∧ e = .returned (.tuple #[.int .i64 (callV x kind A C lit).2.res, .bool true]) ∧ (∃ e1 m1 j1 e2 m2 j2 e3 m3 j3 us hi, Mine u B q (evApp (callV x kind A C lit).1 (callV x kind A C lit).2) e1 m1 j1 e2 m2 j2 e3 m3 j3 us hi) ∧ Below B w u)

set_option maxRecDepth 8000 in
set_option maxHeartbeats 8000000 in
theorem callT (x : RWorld) (B q : Nat) (kind A C : Int) (lit : List Int) (a : Option Addr) (l c : Nat) (d1 : Option Addr) (l1 k1 : Nat) (d2 : Option Addr) (l2 k2 : Nat) (d3 : Option Addr) (l3 k3 : Nat) (vs : List Value) (hi : Nat) (w : World) (h : Mine w B q x d1 l1 k1 d2 l2 k2 d3 l3 k3 vs hi) (hB : B ≤ w.heap.size) (hq : B ≤ q) (hk1 : l1 ≤ k1 ∧ k1 ≤ 9223372036854775807) (hwk : wokV x = true) (hl : RdB w a l lit) (hl64 : l ≤ 64) (hk : I64x kind) :
    Calls Try.prog 31 #[.pointer (some ⟨q, 0, none⟩), .int .i64 kind, .int .i64 A, .int .i64 C, .slice a l c] w fun e u => CalR w B q x kind A C lit e u := by
  have CD : Hid _ := deedsT w
  have hll : l3 = x.trace.length := by
    have h1 := h.2.2.2.1.1
    rw [h.2.2.2.2.1.len] at h1
    omega
  have hle := (wok_facts hwk).2.2.2.2.2
  have L0 : Hid (Mine w B q x d1 l1 k1 d2 l2 k2 d3 l3 k3 vs hi ∧ RdB w a l lit ∧ wokV x = true) := ⟨h, hl, hwk⟩
  clear h hl
  go_enter Try.func31, Try.ntmps31
  go_wp2_with fail
  refine Calls.mono CD.out ?_
  rintro e u ⟨⟨m, n, rfl, hm⟩, hg⟩
  have hlook := hm.look_ok hk
  have L1 : Hid (Mine u B q x d1 l1 k1 d2 l2 k2 d3 l3 k3 vs hi ∧ RdB u a l lit ∧ w.grownBy u none) := ⟨L0.out.1.none hg, L0.out.2.1.none hg, hg⟩
  clear CD hm hg
  by_cases hk4 : 0 ≤ kind ∧ kind ≤ 4
  rotate_left
  · have EV : Hid (calOk x kind = false) := by
      show _ = _
      simp only [calOk, decide_eq_false hk4, Bool.false_and]
    rw [deed_none hk4] at hlook
    simp only [Option.getD_none, Option.isSome_none] at hlook
    go_wp2
    go_ret2
    exact .inl ⟨EV.out, rfl, L1.out.2.2⟩
  obtain ⟨f, hf, hent, hdeed, hcap⟩ := deed_is x kind A C a l c lit hk4
  rw [hf] at hlook
  simp only [Option.getD_some, Option.isSome_some] at hlook
  have HD : Hid _ := And.intro hdeed hcap
  clear hf hdeed hcap
  by_cases h20 : l3 = 20000
  · have EV : Hid (calOk x kind = false) := by
      show _ = _
      have : ¬ x.trace.length < 20000 := by omega
      simp only [calOk, decide_eq_false this, Bool.and_false]
    have h20' : (l3 : Int) = 20000 := by omega
    have z3 := (blkWorld L1.out.1.1).1.2.2.2
    go_wp2
    go_ret2
    exact .inl ⟨EV.out, rfl, L1.out.2.2⟩
  have EV : Hid (calOk x kind = true) := by
    show _ = _
    have : x.trace.length < 20000 := by omega
    simp only [calOk, decide_eq_true this, decide_eq_true hk4, Bool.and_true]
  have h20' : ¬ ((l3 : Int) = 20000) := by omega
  have z3 := (blkWorld L1.out.1.1).1.2.2.2
  have hl2 : l2 ≤ 20 := by
    have h1 := L1.out.1.2.2.1.1
    rw [vE_len] at h1
    have := (wok_facts L0.out.2.2).2.2.2.2.1
    omega
  have CDd : Hid _ := HD.out.1 L0.out.2.2 hl64 B q d1 l1 k1 d2 l2 k2 d3 l3 k3 vs hi u L1.out.1 (Nat.le_trans hB L1.out.2.2.size) hq hk1 hl2 L1.out.2.1
  go_wp2_with fail
  refine Calls.mono CDd.out ?_
  rintro e y ⟨ea, el, ec, e1, m1, j1, e2, m2, j2, e3, m3, j3, us, hi', rfl, M, ⟨hot, hby, hel⟩, hbel⟩
  have hcap := HD.out.2
  have hXt : (callV x kind A C lit).1.trace.length < 20000 := by rw [callV_trace]; omega
  clear HD CDd z3 hlook hent
  obtain ⟨X, hX⟩ : ∃ X, X = (callV x kind A C lit).1 := ⟨_, rfl⟩
  obtain ⟨E, hE⟩ : ∃ E, E = (callV x kind A C lit).2 := ⟨_, rfl⟩
  rw [← hE] at hcap hot hby ⊢
  rw [← hX] at M hXt
  obtain ⟨ecap, eA, eB, elit, eres⟩ := E
  obtain rfl : ecap = kind := hcap
  have EE : Hid (_ ∧ _) := And.intro hX hE
  clear hX hE
  simp only [] at hot hby ⊢
  have bw : Below B w y := (((Below.refl B w).grown L1.out.2.2 hB (fun k e => by cases e))).trans hbel
  have hBy := Nat.le_trans (Nat.le_trans hB L1.out.2.2.size) hbel.size
  have nq : q ≠ y.heap.size := by have := lt_of_block M.1; omega
  have ROy := row_old M.2.2.2.1
  have hm3 : m3 < 20000 := by
    have h1 := M.2.2.2.1.1
    rw [M.2.2.2.2.1.len] at h1
    omega
  go_wp2_with fail
  have gE := World.grownBy_alloc y (.cells #[.int .i64 ecap, .int .i64 eA, .int .i64 eB, .slice ea el ec, .int .i64 eres] 36) none
  have bE := heap_alloc_new y (.cells #[.int .i64 ecap, .int .i64 eA, .int .i64 eB, .slice ea el ec, .int .i64 eres] 36)
  have gd := grown_drew (World.grownBy.refl (y.alloc (.cells #[.int .i64 ecap, .int .i64 eA, .int .i64 eB, .slice ea el ec, .int .i64 eres] 36)) none)
  have L5 : Hid (Mine (y.alloc (.cells #[.int .i64 ecap, .int .i64 eA, .int .i64 eB, .slice ea el ec, .int .i64 eres] 36)).drew B q X e1 m1 j1 e2 m2 j2 e3 m3 j3 us hi' ∧ (y.alloc (.cells #[.int .i64 ecap, .int .i64 eA, .int .i64 eB, .slice ea el ec, .int .i64 eres] 36)).drew.heap[y.heap.size]? = some (.cells #[.int .i64 ecap, .int .i64 eA, .int .i64 eB, .slice ea el ec, .int .i64 eres] 36 (0, 0)) ∧ ((y.alloc (.cells #[.int .i64 ecap, .int .i64 eA, .int .i64 eB, .slice ea el ec, .int .i64 eres] 36)).drew.ownsRow hi' 5 1 (.slice ea el ec) el (vB elit) ∧ Byt elit ∧ el ≤ 1048576) ∧ Below B w (y.alloc (.cells #[.int .i64 ecap, .int .i64 eA, .int .i64 eB, .slice ea el ec, .int .i64 eres] 36)).drew) :=
    ⟨(M.none gE).none gd, (gd.block _ (lt_of_block bE) (by simp)).trans bE, ⟨(hot.kept gE (Classical.em _)).kept gd (Classical.em _), hby, hel⟩, (bw.grown gE hBy (fun k e => by cases e)).drew⟩
  have RO : Hid _ := ROy
  clear M hot hby gE bE gd bw ROy L1 L0
  refine wp_region_held_drew (S := (fun u => u.cell? ⟨y.heap.size, 0, none⟩ = some (.int .i64 ecap) ∧ u.cell? ⟨y.heap.size, 1, none⟩ = some (.int .i64 eA) ∧ u.cell? ⟨y.heap.size, 2, none⟩ = some (.int .i64 eB) ∧ u.cell? ⟨y.heap.size, 3, none⟩ = some (.slice ea el ec) ∧ u.cell? ⟨y.heap.size, 4, none⟩ = some (.int .i64 eres))) (by kernel_rfl) (blkEvent L5.out.2.1).1 (fun hH => ?_)
  generalize (y.alloc (.cells #[.int .i64 ecap, .int .i64 eA, .int .i64 eB, .slice ea el ec, .int .i64 eres] 36)).drew = z at *
  generalize y.heap.size = n at *
  simp only [List.size_toArray, List.length_cons, List.length_nil, Nat.reduceAdd, Array.replicate, List.replicate]
  refine wpAnyH_take (i := 0) (v := ?_) rfl (by kernel_rfl) (by kernel_rfl) (by kernel_rfl) (fun _ _ _ h => h) (Or.inl ⟨by rfl, ?_⟩) hH ?_
  rotate_left
  · (intro v hS; go_simp; try with_reducible rfl)
  simp only [Act.put, List.setIfInBounds_toArray, List.set_cons_zero, List.set_cons_succ, List.getElem_toArray, List.getElem_cons_succ, List.getElem_cons_zero]
  refine wpAnyH_take (i := 1) (v := ?_) rfl (by kernel_rfl) (by kernel_rfl) (by kernel_rfl) (fun _ _ _ h => h) (Or.inl ⟨by rfl, ?_⟩) hH ?_
  rotate_left
  · (intro v hS; go_simp; try with_reducible rfl)
  simp only [Act.put, List.setIfInBounds_toArray, List.set_cons_zero, List.set_cons_succ, List.getElem_toArray, List.getElem_cons_succ, List.getElem_cons_zero]
  refine wpAnyH_take (i := 2) (v := ?_) rfl (by kernel_rfl) (by kernel_rfl) (by kernel_rfl) (fun _ _ _ h => h) (Or.inl ⟨by rfl, ?_⟩) hH ?_
  rotate_left
  · (intro v hS; go_simp; try with_reducible rfl)
  simp only [Act.put, List.setIfInBounds_toArray, List.set_cons_zero, List.set_cons_succ, List.getElem_toArray, List.getElem_cons_succ, List.getElem_cons_zero]
  refine wpAnyH_take (i := 3) (v := ?_) rfl (by kernel_rfl) (by kernel_rfl) (by kernel_rfl) (fun _ _ _ h => h) (Or.inl ⟨by rfl, ?_⟩) hH ?_
  rotate_left
  · (intro v hS; go_simp; try with_reducible rfl)
  simp only [Act.put, List.setIfInBounds_toArray, List.set_cons_zero, List.set_cons_succ, List.getElem_toArray, List.getElem_cons_succ, List.getElem_cons_zero]
  refine wpAnyH_take (i := 5) (v := ?_) rfl (by kernel_rfl) (by kernel_rfl) (by kernel_rfl) (fun _ _ _ h => h) (Or.inl ⟨by rfl, ?_⟩) hH ?_
  rotate_left
  · (intro v hS; obtain ⟨t0, t1, t2, t3, t4⟩ := hS; go_simp; try with_reducible rfl)
  simp only [Act.put, List.setIfInBounds_toArray, List.set_cons_zero, List.set_cons_succ, List.getElem_toArray, List.getElem_cons_succ, List.getElem_cons_zero]
  have q3y := (blkWorld L5.out.1.1).1.2.2.2
  have ga := World.grownBy_alloc z (.cells #[.int .i64 ecap, .int .i64 eA, .int .i64 eB, .slice ea el ec, .int .i64 eres] 36) none
  have ba := heap_alloc_new z (.cells #[.int .i64 ecap, .int .i64 eA, .int .i64 eB, .slice ea el ec, .int .i64 eres] 36)
  have HC : Hid (∀ j w, ([.int .i64 ecap, .int .i64 eA, .int .i64 eB, .slice ea el ec, .int .i64 eres] : List Value)[j]? = some w → (z.alloc (.cells #[.int .i64 ecap, .int .i64 eA, .int .i64 eB, .slice ea el ec, .int .i64 eres] 36)).cell? ((⟨z.heap.size, 0, none⟩ : Addr).add j) = some w) := fun j w hj => by
    rw [Go.WideShapes.add_plain, Nat.zero_add, cell_of_row _ z.heap.size j _ 36 (0, 0) ba]
    match j, hj with
    | 0, hj => exact hj
    | 1, hj => exact hj
    | 2, hj => exact hj
    | 3, hj => exact hj
    | 4, hj => exact hj
    | j + 5, hj => simp at hj
  have H1 : Hid (∀ w ∈ ([.int .i64 ecap, .int .i64 eA, .int .i64 eB, .slice ea el ec, .int .i64 eres] : List Value), w.oneCell' = true) := fun w hw => by
    simp only [List.mem_cons, List.not_mem_nil, or_false] at hw
    rcases hw with rfl | rfl | rfl | rfl | rfl <;> rfl
  have hnz := lt_of_block L5.out.2.1
  have hBn : B ≤ z.heap.size := by omega
  have L6 : Hid (Mine (z.alloc (.cells #[.int .i64 ecap, .int .i64 eA, .int .i64 eB, .slice ea el ec, .int .i64 eres] 36)) B q X e1 m1 j1 e2 m2 j2 e3 m3 j3 us hi' ∧ (z.alloc (.cells #[.int .i64 ecap, .int .i64 eA, .int .i64 eB, .slice ea el ec, .int .i64 eres] 36)).heap[n]? = some (.cells #[.int .i64 ecap, .int .i64 eA, .int .i64 eB, .slice ea el ec, .int .i64 eres] 36 (0, 0)) ∧ ((z.alloc (.cells #[.int .i64 ecap, .int .i64 eA, .int .i64 eB, .slice ea el ec, .int .i64 eres] 36)).ownsRow hi' 5 1 (.slice ea el ec) el (vB elit) ∧ Byt elit ∧ el ≤ 1048576) ∧ Below B w (z.alloc (.cells #[.int .i64 ecap, .int .i64 eA, .int .i64 eB, .slice ea el ec, .int .i64 eres] 36)) ∧ B ≤ (z.alloc (.cells #[.int .i64 ecap, .int .i64 eA, .int .i64 eB, .slice ea el ec, .int .i64 eres] 36)).heap.size) :=
    ⟨L5.out.1.none ga, (ga.block _ (lt_of_block L5.out.2.1) (by simp)).trans L5.out.2.1, ⟨L5.out.2.2.1.1.kept ga (Classical.em _), L5.out.2.2.1.2⟩, L5.out.2.2.2.grown ga hBn (fun k e => by cases e), Nat.le_trans hBn ga.size⟩
  have hBz : B ≤ (z.alloc (.cells #[.int .i64 ecap, .int .i64 eA, .int .i64 eB, .slice ea el ec, .int .i64 eres] 36)).heap.size := L6.out.2.2.2.2
  have q3z := (blkWorld L6.out.1.1).1.2.2.2
  clear ga ba
  refine wpAnyH_ready (rs := [4, 6]) (by kernel_rfl) (by simp) ?_
  refine AllReadyH.cons rfl (fun K hK => ?_) ?_
  · skip
    go_simp
    refine hK.out _ _ (blkEvent L5.out.2.1).1 (fun hH2 => ?_)
    clear hK K hH
    have hH := hH2
    clear hH2
    simp only [Act.put, List.setIfInBounds_toArray, List.set_cons_zero, List.set_cons_succ, List.getElem_toArray, List.getElem_cons_succ, List.getElem_cons_zero]
    refine wpAnyH_ready (rs := [6]) (by kernel_rfl) (by simp) ?_
    refine AllReadyH.cons rfl (fun K hK => ?_) AllReadyH.nil
    go_simp
    refine hK.out _ _ (blkEvent L6.out.2.1).1 (fun hH2 => ?_)
    clear hK K hH
    have hH := hH2
    clear hH2
    simp only [Act.put, List.setIfInBounds_toArray, List.set_cons_zero, List.set_cons_succ, List.getElem_toArray, List.getElem_cons_succ, List.getElem_cons_zero]
    refine wpAnyH_ready (rs := [7]) (by kernel_rfl) (by simp) ?_
    refine AllReadyH.cons rfl (fun K hK => ?_) AllReadyH.nil
    obtain ⟨i0, hi0, hz0, hz1, hz2⟩ := info_parts infoYv
    refine step_ofY rfl (wp_append_own _ (.tmp 43) (.tmp 45) 25 rfl B 36 i0 _ 5 56 Try.underlying25 hi0 hz0 hz1 hz2 rfl (by decide) (.slice e3 m3 j3) m3 us rfl L6.out.1.2.2.2.1 ⟨z.heap.size, 0, none⟩ 1 1 _ rfl rfl HC.out H1.out (by unfold maxLen; omega) (by omega) hBz ?_)
    intro vv w4 ho4 hg4 _
    obtain ⟨d4, k4, rfl⟩ := row_slice ho4
    have ap := mine_app (ev := ⟨ecap, eA, eB, elit, eres⟩) L6.out.1 hg4 ho4 L6.out.2.2.1.1 L6.out.2.2.1.2.1 L6.out.2.2.1.2.2
    have n4 := (hg4.block n (lt_of_block L6.out.2.1) (fun e => by
      rcases RO.out with h0 | h0
      · rw [h0] at e; cases e
      · exact h0 e.symm)).trans L6.out.2.1
    have bl4 := L6.out.2.2.2.1.grown hg4 (Nat.le_trans L6.out.2.2.2.2 (Nat.le_refl _)) (fun g e => (World.ownsRow.lt L6.out.1.2.2.2.1 g e).1)
    have kq := grown_setCell w4 q 3 (.slice d4 (m3 + 1) k4)
    have q5 := heap_setCell_same _ q 3 _ _ (.slice d4 (m3 + 1) k4) ap.1
    have ow5 := ow_kept ap.2 kq ap.1
    have n5 := (kq.block n (lt_of_block n4) (by simp; omega)).trans n4
    have L7 : Hid _ := And.intro n4 (And.intro n5 (And.intro (And.intro q5 ow5) (bl4.setCell (p := ⟨q, 3, none⟩) hq (.slice d4 (m3 + 1) k4))))
    have z3 := (blkWorld ap.1).1.2.2.2
    have fz3 := (blkWorld ap.1).2 3
    clear ap n4 bl4 kq q5 ow5 n5 ho4 hg4 i0 hi0 hz0 hz1 hz2
    refine hK.out _ _ (blkEvent L7.out.1).1 (fun hH2 => ?_)
    clear hK K hH
    have hH := hH2
    clear hH2
    simp only [Act.put, List.setIfInBounds_toArray, List.set_cons_zero, List.set_cons_succ, List.getElem_toArray, List.getElem_cons_succ, List.getElem_cons_zero]
    refine wpAnyH_take (i := 8) (v := ?_) rfl (by kernel_rfl) (by kernel_rfl) (by kernel_rfl) (fun _ _ _ h => h) (Or.inl ⟨by rfl, ?_⟩) hH ?_
    rotate_left
    · (intro v hS; go_simp; try with_reducible rfl)
    simp only [Act.put, List.setIfInBounds_toArray, List.set_cons_zero, List.set_cons_succ, List.getElem_toArray, List.getElem_cons_succ, List.getElem_cons_zero]
    refine wpAnyH_take (i := 9) (v := ?_) rfl (by kernel_rfl) (by kernel_rfl) (by kernel_rfl) (fun _ _ _ h => h) (Or.inl ⟨by rfl, ?_⟩) hH ?_
    rotate_left
    · (intro v hS; go_simp; try with_reducible rfl)
    simp only [Act.put, List.setIfInBounds_toArray, List.set_cons_zero, List.set_cons_succ, List.getElem_toArray, List.getElem_cons_succ, List.getElem_cons_zero]
    refine wpAnyH_ready (rs := [10]) (by kernel_rfl) (by simp) ?_
    refine AllReadyH.cons rfl (fun K hK => ?_) AllReadyH.nil
    go_simp
    refine hK.out _ _ (blkEvent L7.out.2.1).1 (fun hH2 => ?_)
    clear hK K hH z3 fz3
    simp only [Act.put, List.setIfInBounds_toArray, List.set_cons_zero, List.set_cons_succ, List.getElem_toArray, List.getElem_cons_succ, List.getElem_cons_zero]
    refine wpAnyH_done (by kernel_rfl) ?_ _
    clear hH2
    have x4 := (blkEvent L7.out.2.1).1.2.2.2.2
    go_wp2
    (try simp only [Exit.inBlock, Exit.then])
    go_ret2
    refine .inr ⟨EV.out, ?_, ⟨_, _, _, _, _, _, _, _, _, _, _, (by rw [← EE.out.1, ← EE.out.2]; exact L7.out.2.2.1)⟩, L7.out.2.2.2⟩
    rw [← EE.out.2]
    rfl
  refine AllReadyH.cons rfl (fun K hK => ?_) AllReadyH.nil
  · skip
    go_simp
    refine hK.out _ _ (blkEvent L6.out.2.1).1 (fun hH2 => ?_)
    clear hK K hH
    have hH := hH2
    clear hH2
    simp only [Act.put, List.setIfInBounds_toArray, List.set_cons_zero, List.set_cons_succ, List.getElem_toArray, List.getElem_cons_succ, List.getElem_cons_zero]
    refine wpAnyH_ready (rs := [4]) (by kernel_rfl) (by simp) ?_
    refine AllReadyH.cons rfl (fun K hK => ?_) AllReadyH.nil
    go_simp
    refine hK.out _ _ (blkEvent L6.out.2.1).1 (fun hH2 => ?_)
    clear hK K hH
    have hH := hH2
    clear hH2
    simp only [Act.put, List.setIfInBounds_toArray, List.set_cons_zero, List.set_cons_succ, List.getElem_toArray, List.getElem_cons_succ, List.getElem_cons_zero]
    refine wpAnyH_ready (rs := [7]) (by kernel_rfl) (by simp) ?_
    refine AllReadyH.cons rfl (fun K hK => ?_) AllReadyH.nil
    obtain ⟨i0, hi0, hz0, hz1, hz2⟩ := info_parts infoYv
    refine step_ofY rfl (wp_append_own _ (.tmp 43) (.tmp 45) 25 rfl B 36 i0 _ 5 56 Try.underlying25 hi0 hz0 hz1 hz2 rfl (by decide) (.slice e3 m3 j3) m3 us rfl L6.out.1.2.2.2.1 ⟨z.heap.size, 0, none⟩ 1 1 _ rfl rfl HC.out H1.out (by unfold maxLen; omega) (by omega) hBz ?_)
    intro vv w4 ho4 hg4 _
    obtain ⟨d4, k4, rfl⟩ := row_slice ho4
    have ap := mine_app (ev := ⟨ecap, eA, eB, elit, eres⟩) L6.out.1 hg4 ho4 L6.out.2.2.1.1 L6.out.2.2.1.2.1 L6.out.2.2.1.2.2
    have n4 := (hg4.block n (lt_of_block L6.out.2.1) (fun e => by
      rcases RO.out with h0 | h0
      · rw [h0] at e; cases e
      · exact h0 e.symm)).trans L6.out.2.1
    have bl4 := L6.out.2.2.2.1.grown hg4 (Nat.le_trans L6.out.2.2.2.2 (Nat.le_refl _)) (fun g e => (World.ownsRow.lt L6.out.1.2.2.2.1 g e).1)
    have kq := grown_setCell w4 q 3 (.slice d4 (m3 + 1) k4)
    have q5 := heap_setCell_same _ q 3 _ _ (.slice d4 (m3 + 1) k4) ap.1
    have ow5 := ow_kept ap.2 kq ap.1
    have n5 := (kq.block n (lt_of_block n4) (by simp; omega)).trans n4
    have L7 : Hid _ := And.intro n4 (And.intro n5 (And.intro (And.intro q5 ow5) (bl4.setCell (p := ⟨q, 3, none⟩) hq (.slice d4 (m3 + 1) k4))))
    have z3 := (blkWorld ap.1).1.2.2.2
    have fz3 := (blkWorld ap.1).2 3
    clear ap n4 bl4 kq q5 ow5 n5 ho4 hg4 i0 hi0 hz0 hz1 hz2
    refine hK.out _ _ (blkEvent L7.out.1).1 (fun hH2 => ?_)
    clear hK K hH
    have hH := hH2
    clear hH2
    simp only [Act.put, List.setIfInBounds_toArray, List.set_cons_zero, List.set_cons_succ, List.getElem_toArray, List.getElem_cons_succ, List.getElem_cons_zero]
    refine wpAnyH_take (i := 8) (v := ?_) rfl (by kernel_rfl) (by kernel_rfl) (by kernel_rfl) (fun _ _ _ h => h) (Or.inl ⟨by rfl, ?_⟩) hH ?_
    rotate_left
    · (intro v hS; go_simp; try with_reducible rfl)
    simp only [Act.put, List.setIfInBounds_toArray, List.set_cons_zero, List.set_cons_succ, List.getElem_toArray, List.getElem_cons_succ, List.getElem_cons_zero]
    refine wpAnyH_take (i := 9) (v := ?_) rfl (by kernel_rfl) (by kernel_rfl) (by kernel_rfl) (fun _ _ _ h => h) (Or.inl ⟨by rfl, ?_⟩) hH ?_
    rotate_left
    · (intro v hS; go_simp; try with_reducible rfl)
    simp only [Act.put, List.setIfInBounds_toArray, List.set_cons_zero, List.set_cons_succ, List.getElem_toArray, List.getElem_cons_succ, List.getElem_cons_zero]
    refine wpAnyH_ready (rs := [10]) (by kernel_rfl) (by simp) ?_
    refine AllReadyH.cons rfl (fun K hK => ?_) AllReadyH.nil
    go_simp
    refine hK.out _ _ (blkEvent L7.out.2.1).1 (fun hH2 => ?_)
    clear hK K hH z3 fz3
    simp only [Act.put, List.setIfInBounds_toArray, List.set_cons_zero, List.set_cons_succ, List.getElem_toArray, List.getElem_cons_succ, List.getElem_cons_zero]
    refine wpAnyH_done (by kernel_rfl) ?_ _
    clear hH2
    have x4 := (blkEvent L7.out.2.1).1.2.2.2.2
    go_wp2
    (try simp only [Exit.inBlock, Exit.then])
    go_ret2
    refine .inr ⟨EV.out, ?_, ⟨_, _, _, _, _, _, _, _, _, _, _, (by rw [← EE.out.1, ← EE.out.2]; exact L7.out.2.2.1)⟩, L7.out.2.2.2⟩
    rw [← EE.out.2]
    rfl
end Go.Proofs.Ytccnninmkfhejaa.By
