/-
  Instructions in lists, blocks: the program's side by its contracts. No statement is proved here.
-/
import Derived.Test.YtpdkgmagjhibkaaGreatDoorTxtAlso
import Derived.Test.YtpdkgmagjhibkaaGreatDoorPAAlso
import Derived.Test.YtpdkgmagjhibkaaGreatDoorSInss
import Derived.Test.YtpdkgmagjhibkaaGreatDoorSBlock
namespace Go.Proofs.YtpdkgmagjhibkaaGreatDoor.By
open Go.RowKit
set_option linter.unusedVariables false
set_option linter.unusedSimpArgs false

set_option maxHeartbeats 1000000 in
theorem isNoInsT (x : RIns) (a1 : Option Addr) (l1 c1 : Nat) (a2 : Option Addr) (l2 c2 : Nat) (w : World) (h : RdIns w x a1 l1 a2 l2) (hF : OpsIn w) :
    Calls Tryz.prog 89 #[.agg #[.int .i64 x.op, .int .i64 x.a, .int .i64 x.b, .slice a1 l1 c1, .slice a2 l2 c2]] w fun e u => e = .returned (.bool (!insV x)) ∧ w.grownBy u none := by
  have g0 := World.grownBy_alloc w (.cells #[.int .i64 x.op, .int .i64 x.a, .int .i64 x.b, .slice a1 l1 c1, .slice a2 l2 c2] 65) none
  have b0 := heap_alloc_new w (.cells #[.int .i64 x.op, .int .i64 x.a, .int .i64 x.b, .slice a1 l1 c1, .slice a2 l2 c2] 65)
  have C0 : Hid _ := implInsT x a1 l1 c1 a2 l2 c2 (w.alloc (.cells #[.int .i64 x.op, .int .i64 x.a, .int .i64 x.b, .slice a1 l1 c1, .slice a2 l2 c2] 65)) (h.none g0) (hF.none g0)
  have G0 : Hid _ := g0
  obtain ⟨⟨y0, y1, y2, y3, y4⟩, -⟩ := blkIns b0
  clear h hF g0 b0
  go_enter Tryz.func89, Tryz.ntmps89
  go_wp2_with fail
  refine Calls.mono C0.out ?_
  rintro e u ⟨he, hg⟩
  subst he
  have G1 : Hid (w.grownBy u none) := grown_trans G0.out hg
  clear C0 hg G0 y0 y1 y2 y3 y4
  simp only []
  go_wp2
  go_ret
  exact ⟨rfl, G1.out⟩

set_option maxRecDepth 4000 in
set_option maxHeartbeats 2000000 in
theorem indexNn (xs : List RIns) (a : Option Addr) (l c : Nat) (w : World) (h : SlIns w a l xs) (hC : OpsIn w) :
    Calls Tryz.prog 109 #[.slice a l c, .func (.func 89) #[] #[]] w fun e u => (∃ r : Int, e = .returned (.int .i64 r) ∧ AtP (xs.any fun x => !insV x) r) ∧ w.grownBy u none := by
  have hl := h.2.1
  have hfl := h.1
  rcases h.cases with ⟨rfl, rfl⟩ | ⟨b, o, rfl, hin, hpos⟩
  · go_enter Tryz.func109, Tryz.ntmps109
    go_wp2
    refine wp_loop_rounds 1 ?_
    rw [rounds_succ]
    go_wp2
    go_ret
    exact ⟨⟨-1, rfl, by unfold AtP; exact rfl⟩, World.grownBy.refl _ _⟩
  have IN : Hid (InIns w w xs b o) := hin
  have HC : Hid (OpsIn w) := hC
  clear hin h hC
  go_enter Tryz.func109, Tryz.ntmps109
  go_wp2
  go_loopw [8] (fun i wr => ∃ (j : Nat) (R : List RIns), j ≤ l ∧ i = .int .i64 j ∧ R.length + j = l ∧ Hid (w.grownBy wr none ∧ InIns w w R b (o + j * 5) ∧ (xs.any fun x => !insV x) = R.any fun x => !insV x)) (fun i _ => l - (intOf i).toNat)
  case atStart => exact ⟨0, xs, Nat.zero_le _, rfl, by omega, World.grownBy.refl _ _, by simpa using IN.out, rfl⟩
  case round =>
    obtain ⟨j, R, hj, rfl, hRl, HR⟩ := hrel
    by_cases hlt : j < l
    · obtain ⟨x, R', rfl⟩ : ∃ x R', R = x :: R' := by
        cases R with
        | nil => simp at hRl; omega
        | cons x R' => exact ⟨x, R', rfl⟩
      obtain ⟨hg, ⟨⟨a1, l1, c1, a2, l2, c2, ⟨k0, k1, k2, k3, k4⟩, hd⟩, hR2⟩, hv⟩ := HR.out
      rw [show o + j * 5 + 5 = o + (j + 1) * 5 by omega] at hR2
      simp only [List.any_cons] at hv
      simp only [List.length_cons] at hRl
      have k0 := hg.cell k0 (by simp)
      have k1 := hg.cell k1 (by simp)
      have k2 := hg.cell k2 (by simp)
      have k3 := hg.cell k3 (by simp)
      have k4 := hg.cell k4 (by simp)
      have CC : Hid _ := isNoInsT x a1 l1 c1 a2 l2 c2 wr (hd.none hg) (HC.out.none hg)
      have FX : Hid (w.grownBy wr none ∧ InIns w w R' b (o + (j + 1) * 5) ∧ (xs.any fun x => !insV x) = ((!insV x) || R'.any fun x => !insV x)) := ⟨hg, hR2, hv⟩
      clear hg hv hd hR2 HR IN
      go_wp2_with fail
      refine Calls.mono CC.out ?_
      rintro e v ⟨he, hgv⟩
      subst he
      have FY : Hid (w.grownBy v none) := grown_trans FX.out.1 hgv
      clear CC hgv k0 k1 k2 k3 k4
      simp only []
      cases hq : (!insV x) with
      | true =>
        have E2 : Hid ((xs.any fun x => !insV x) = true) := by show _ = _; rw [FX.out.2.2, hq]; rfl
        clear hq
        go_wp2
        go_ret
        exact ⟨⟨(j : Int), rfl, by unfold AtP; rw [E2.out]; show 0 ≤ (j : Int); omega⟩, FY.out⟩
      | false =>
        have E2 : Hid ((xs.any fun x => !insV x) = R'.any fun x => !insV x) := by show _ = _; rw [FX.out.2.2, hq]; rfl
        clear hq
        go_wp2
        go_roundw
        case rel => exact ⟨j + 1, R', by omega, by go_num, by omega, FY.out, FX.out.2.1, E2.out⟩
        case measure => simp [intOf]; omega
    · obtain rfl : j = l := by omega
      obtain rfl : R = [] := List.eq_nil_of_length_eq_zero (by omega)
      have E2 : Hid ((xs.any fun x => !insV x) = false ∧ w.grownBy wr none) := ⟨HR.out.2.2, HR.out.1⟩
      clear HR IN
      go_wp2
      go_ret
      exact ⟨⟨-1, rfl, by unfold AtP; rw [E2.out.1, if_neg (by simp)]⟩, E2.out.2⟩

set_option maxHeartbeats 400000 in
theorem containsNn (xs : List RIns) (a : Option Addr) (l c : Nat) (w : World) (h : SlIns w a l xs) (hC : OpsIn w) :
    Calls Tryz.prog 88 #[.slice a l c, .func (.func 89) #[] #[]] w fun e u => e = .returned (.bool (xs.any fun x => !insV x)) ∧ w.grownBy u none := by
  have CC : Hid _ := indexNn xs a l c w h hC
  clear h hC
  go_enter Tryz.func88, Tryz.ntmps88
  go_wp2_with fail
  refine Calls.mono CC.out ?_
  rintro e u ⟨⟨r, rfl, hr⟩, hg⟩
  have G : Hid (w.grownBy u none) := hg
  clear hg CC
  unfold AtP at hr
  simp only []
  cases hb : (xs.any fun x => !insV x) with
  | true =>
    rw [hb, if_pos rfl] at hr
    go_wp2
    go_ret
    refine ⟨?_, G.out⟩
    rw [hb]
    first | rfl | (simp; done) | (simp; omega)
  | false =>
    rw [hb, if_neg (by simp)] at hr
    subst hr
    go_wp2
    go_ret
    refine ⟨?_, G.out⟩
    rw [hb]
    first | rfl | (simp; done)

set_option maxHeartbeats 1000000 in
theorem tyMadeT (k : Int) (v : Option Addr) (l c : Nat) (w : World) :
    Calls Tryz.prog 87 #[.int .i64 k, .slice v l c] w fun e u => e = .returned (.agg #[.int .i64 k, .int .i64 0, .slice v l c]) ∧ w.grownBy u none := by
  have b0 := heap_alloc_new w (.cells #[.int .i64 0, .int .i64 0, .slice none 0 0] 60)
  have g0 := World.grownBy_alloc w (.cells #[.int .i64 0, .int .i64 0, .slice none 0 0] 60) none
  obtain ⟨⟨y0, y1, y2⟩, f0, f1, f2⟩ := three b0
  have m2 : ((((w.alloc (.cells #[.int .i64 0, .int .i64 0, .slice none 0 0] 60)).setCell ⟨w.heap.size, 0, none⟩ (.int .i64 k)).setCell ⟨w.heap.size, 1, none⟩ (.int .i64 0)).setCell ⟨w.heap.size, 2, none⟩ (.slice v l c)).heap[w.heap.size]? = some (Obj.cells #[.int .i64 k, .int .i64 0, .slice v l c] 60) := heap_setCell_same _ _ 2 _ _ (.slice v l c) (heap_setCell_same _ _ 1 _ _ (.int .i64 0) (heap_setCell_same _ _ 0 _ _ (.int .i64 k) b0))
  have kk := grown_trans (grown_trans (grown_setCell (w.alloc (.cells #[.int .i64 0, .int .i64 0, .slice none 0 0] 60)) w.heap.size 0 (.int .i64 k)) (grown_setCell _ w.heap.size 1 (.int .i64 0))) (grown_setCell _ w.heap.size 2 (.slice v l c))
  have FQ : Hid _ := And.intro m2 (grown_into g0 kk (Nat.le_refl _))
  clear m2 kk g0 b0
  go_enter Tryz.func87, Tryz.ntmps87
  go_upto_region 1 with fail
  generalize w.alloc (.cells #[.int .i64 0, .int .i64 0, .slice none 0 0] 60) = w0 at *
  generalize w.heap.size = p at *
  go_wp2
  (try simp only [Exit.inBlock, Exit.then])
  refine bodyPost_ret (results_cell_row (P := Tryz.prog) Tryz.results87 _ _ p _ _ _ _ rfl FQ.out.1 Tryz.underlying60 rfl (by kernel_rfl)) rfl ?_
  exact ⟨rfl, FQ.out.2⟩

def blockV (M : Nat) (x : RBlock) : Bool := decide (x.env.len ≤ 60) && decide (x.locs.len ≤ 60) && decide (1 ≤ x.code.length) && decide (x.code.length ≤ 1000) && (lwF M (.cons 4 0 (.cons x.argk x.argn x.argf (.cons x.resk x.resn x.resf .nil)) .nil) && lwF M x.env && lwF M x.locs && !x.code.any fun x => !insV x)

set_option maxRecDepth 8000 in
set_option maxHeartbeats 4000000 in
theorem blockOkT (x : RBlock) (a1 : Option Addr) (l1 c1 : Nat) (a2 : Option Addr) (l2 c2 : Nat) (a3 : Option Addr) (l3 c3 : Nat) (a4 : Option Addr) (l4 c4 : Nat) (a5 : Option Addr) (l5 c5 : Nat) (M : Nat) (w : World) (h : RdBlock w x a1 l1 a2 l2 a3 l3 a4 l4 a5 l5) (hF : OpsIn w) (hM : M ≤ 4194304) :
    Calls Tryz.prog 57 #[.agg #[.slice a1 l1 c1, .int .i64 x.argk, .int .i64 x.argn, .slice a2 l2 c2, .int .i64 x.resk, .int .i64 x.resn, .slice a3 l3 c3, .slice a4 l4 c4, .slice a5 l5 c5], .int .i64 (M : Int)] w fun e u => e = .returned (.bool (blockV M x)) ∧ w.grownBy u none := by
  have g0 := World.grownBy_alloc w (.cells #[.slice a1 l1 c1, .int .i64 x.argk, .int .i64 x.argn, .slice a2 l2 c2, .int .i64 x.resk, .int .i64 x.resn, .slice a3 l3 c3, .slice a4 l4 c4, .slice a5 l5 c5] 63) none
  have b0 := heap_alloc_new w (.cells #[.slice a1 l1 c1, .int .i64 x.argk, .int .i64 x.argn, .slice a2 l2 c2, .int .i64 x.resk, .int .i64 x.resn, .slice a3 l3 c3, .slice a4 l4 c4, .slice a5 l5 c5] 63)
  have HS : Hid (∀ u, w.grownBy u none → RdBlock u x a1 l1 a2 l2 a3 l3 a4 l4 a5 l5 ∧ OpsIn u) := fun u hu => ⟨h.none hu, hF.none hu⟩
  have L0 : Hid (w.grownBy _ none ∧ _ = some (Obj.cells #[.slice a1 l1 c1, .int .i64 x.argk, .int .i64 x.argn, .slice a2 l2 c2, .int .i64 x.resk, .int .i64 x.resn, .slice a3 l3 c3, .slice a4 l4 c4, .slice a5 l5 c5] 63)) := ⟨g0, b0⟩
  have e1 : x.env.len = l1 := h.1.1
  have e4 : x.locs.len = l4 := h.2.2.2.1.1
  have e5 : x.code.length = l5 := h.2.2.2.2.1
  have m1 := h.1.2.1
  have m4 := h.2.2.2.1.2.1
  have m5 := h.2.2.2.2.2.1
  have HV : Hid (blockV M x = (decide (l1 ≤ 60) && decide (l4 ≤ 60) && decide (1 ≤ l5) && decide (l5 ≤ 1000) && (lwF M (.cons 4 0 (.cons x.argk x.argn x.argf (.cons x.resk x.resn x.resf .nil)) .nil) && lwF M x.env && lwF M x.locs && !x.code.any fun x => !insV x))) := by show _ = _; unfold blockV; rw [e1, e4, e5]
  obtain ⟨⟨y0, y1, y2, y3, y4, y5, y6, y7, y8⟩, -⟩ := blkBlock b0
  clear h hF g0 b0 e1 e4 e5
  go_enter Tryz.func57, Tryz.ntmps57
  go_upto_region 1 with fail
  generalize w.alloc (.cells #[.slice a1 l1 c1, .int .i64 x.argk, .int .i64 x.argn, .slice a2 l2 c2, .int .i64 x.resk, .int .i64 x.resn, .slice a3 l3 c3, .slice a4 l4 c4, .slice a5 l5 c5] 63) = w0 at *
  generalize w.heap.size = p0 at *
  by_cases q1 : 60 < l1
  · have q1' : (l1 : Int) > 60 := by omega
    have E : Hid (blockV M x = false) := by
      show _ = _
      have : decide (l1 ≤ 60) = false := by simp; omega
      rw [HV.out, this]; simp
    go_wp2
    go_ret
    exact ⟨by rw [E.out]; rfl, L0.out.1⟩
  have q1' : ¬ (l1 : Int) > 60 := by omega
  have q1t : decide (l1 ≤ 60) = true := by simp; omega
  by_cases q4 : 60 < l4
  · have q4' : (l4 : Int) > 60 := by omega
    have E : Hid (blockV M x = false) := by
      show _ = _
      have : decide (l4 ≤ 60) = false := by simp; omega
      rw [HV.out, this]; simp
    go_wp2
    go_ret
    exact ⟨by rw [E.out]; rfl, L0.out.1⟩
  have q4' : ¬ (l4 : Int) > 60 := by omega
  have q4t : decide (l4 ≤ 60) = true := by simp; omega
  by_cases q5 : l5 < 1
  · have q5' : (l5 : Int) < 1 := by omega
    have E : Hid (blockV M x = false) := by
      show _ = _
      have : decide (1 ≤ l5) = false := by simp; omega
      rw [HV.out, this]; simp
    go_wp2
    go_ret
    exact ⟨by rw [E.out]; rfl, L0.out.1⟩
  have q5' : ¬ (l5 : Int) < 1 := by omega
  have q5t : decide (1 ≤ l5) = true := by simp; omega
  by_cases q6 : 1000 < l5
  · have q6' : (l5 : Int) > 1000 := by omega
    have E : Hid (blockV M x = false) := by
      show _ = _
      have : decide (l5 ≤ 1000) = false := by simp; omega
      rw [HV.out, this]; simp
    go_wp2
    go_ret
    exact ⟨by rw [E.out]; rfl, L0.out.1⟩
  have q6' : ¬ (l5 : Int) > 1000 := by omega
  have q6t : decide (l5 ≤ 1000) = true := by simp; omega
  have HW : Hid (blockV M x = (lwF M (.cons 4 0 (.cons x.argk x.argn x.argf (.cons x.resk x.resn x.resf .nil)) .nil) && lwF M x.env && lwF M x.locs && !x.code.any fun x => !insV x)) := by show _ = _; rw [HV.out, q1t, q4t, q5t, q6t]; rfl
  clear HV q1t q4t q5t q6t
  have ga := World.grownBy_alloc w0 (.cells #[.int .i64 x.argk, .int .i64 x.argn, .slice a2 l2 c2, .int .i64 x.resk, .int .i64 x.resn, .slice a3 l3 c3] 60) none
  have ba := heap_alloc_new w0 (.cells #[.int .i64 x.argk, .int .i64 x.argn, .slice a2 l2 c2, .int .i64 x.resk, .int .i64 x.resn, .slice a3 l3 c3] 60)
  have C1 : Hid _ := tyMadeT 4 (some ⟨w0.heap.size, 0, none⟩) 2 2 (w0.alloc (.cells #[.int .i64 x.argk, .int .i64 x.argn, .slice a2 l2 c2, .int .i64 x.resk, .int .i64 x.resn, .slice a3 l3 c3] 60))
  have L1 : Hid (w.grownBy _ none ∧ _ = some (Obj.cells #[.slice a1 l1 c1, .int .i64 x.argk, .int .i64 x.argn, .slice a2 l2 c2, .int .i64 x.resk, .int .i64 x.resn, .slice a3 l3 c3, .slice a4 l4 c4, .slice a5 l5 c5] 63) ∧ _ = some (Obj.cells #[.int .i64 x.argk, .int .i64 x.argn, .slice a2 l2 c2, .int .i64 x.resk, .int .i64 x.resn, .slice a3 l3 c3] 60)) := ⟨grown_trans L0.out.1 ga, (ga.block _ (lt_of_block L0.out.2) (by simp)).trans L0.out.2, ba⟩
  clear L0 ga ba
  go_wp2_with fail
  refine Calls.mono C1.out ?_
  rintro e u1 ⟨he, hg⟩
  subst he
  have L2 : Hid (w.grownBy u1 none ∧ u1.heap[p0]? = some (Obj.cells #[.slice a1 l1 c1, .int .i64 x.argk, .int .i64 x.argn, .slice a2 l2 c2, .int .i64 x.resk, .int .i64 x.resn, .slice a3 l3 c3, .slice a4 l4 c4, .slice a5 l5 c5] 63) ∧ u1.heap[w0.heap.size]? = some (Obj.cells #[.int .i64 x.argk, .int .i64 x.argn, .slice a2 l2 c2, .int .i64 x.resk, .int .i64 x.resn, .slice a3 l3 c3] 60)) := ⟨grown_trans L1.out.1 hg, (hg.block _ (lt_of_block L1.out.2.1) (by simp)).trans L1.out.2.1, (hg.block _ (lt_of_block L1.out.2.2) (by simp)).trans L1.out.2.2⟩
  clear C1 L1 hg y0 y1 y2 y3 y4 y5 y6 y7 y8
  generalize w0.heap.size = p1 at *
  simp only []
  have ga := World.grownBy_alloc u1 (.cells #[.int .i64 4, .int .i64 0, .slice (some ⟨p1, 0, none⟩) 2 2] 60) none
  have ba := heap_alloc_new u1 (.cells #[.int .i64 4, .int .i64 0, .slice (some ⟨p1, 0, none⟩) 2 2] 60)
  have L3 : Hid (w.grownBy _ none ∧ _ = some (Obj.cells #[.slice a1 l1 c1, .int .i64 x.argk, .int .i64 x.argn, .slice a2 l2 c2, .int .i64 x.resk, .int .i64 x.resn, .slice a3 l3 c3, .slice a4 l4 c4, .slice a5 l5 c5] 63) ∧ _ = some (Obj.cells #[.int .i64 x.argk, .int .i64 x.argn, .slice a2 l2 c2, .int .i64 x.resk, .int .i64 x.resn, .slice a3 l3 c3] 60) ∧ _ = some (Obj.cells #[.int .i64 4, .int .i64 0, .slice (some ⟨p1, 0, none⟩) 2 2] 60)) := ⟨grown_trans L2.out.1 ga, (ga.block _ (lt_of_block L2.out.2.1) (by simp)).trans L2.out.2.1, (ga.block _ (lt_of_block L2.out.2.2) (by simp)).trans L2.out.2.2, ba⟩
  have SF : SlF (u1.alloc (.cells #[.int .i64 4, .int .i64 0, .slice (some ⟨p1, 0, none⟩) 2 2] 60)) (some ⟨u1.heap.size, 0, none⟩) 1 (.cons 4 0 (.cons x.argk x.argn x.argf (.cons x.resk x.resn x.resf .nil)) .nil) := by
    obtain ⟨hgw, -, hb6, hb3⟩ := L3.out
    have hr := (HS.out _ hgw).1
    have cc := fun j => cell_of_row _ p1 j _ _ (0, 0) hb6
    have dd := fun j => cell_of_row _ u1.heap.size j _ _ (0, 0) hb3
    refine ⟨rfl, by omega, .inr ⟨_, _, rfl, InF.mk ((dd 0).trans rfl) ((dd 1).trans rfl) ((dd 2).trans rfl) ⟨rfl, by omega, .inr ⟨_, _, rfl, InF.mk ((cc 0).trans rfl) ((cc 1).trans rfl) ((cc 2).trans rfl) hr.2.1 (InF.mk ((cc 3).trans rfl) ((cc 4).trans rfl) ((cc 5).trans rfl) hr.2.2.1 trivial)⟩⟩ trivial⟩⟩
  have C2 : Hid _ := areLowT (.cons 4 0 (.cons x.argk x.argn x.argf (.cons x.resk x.resn x.resf .nil)) .nil) (some ⟨u1.heap.size, 0, none⟩) 1 1 M _ SF hM
  clear L2 ga ba SF
  obtain ⟨⟨y0, y1, y2, y3, y4, y5, y6, y7, y8⟩, -⟩ := blkBlock L3.out.2.1
  go_wp2_with fail
  refine Calls.mono C2.out ?_
  rintro e v0 ⟨he, hg⟩
  subst he
  have L4 : Hid (w.grownBy v0 none ∧ v0.heap[p0]? = some (Obj.cells #[.slice a1 l1 c1, .int .i64 x.argk, .int .i64 x.argn, .slice a2 l2 c2, .int .i64 x.resk, .int .i64 x.resn, .slice a3 l3 c3, .slice a4 l4 c4, .slice a5 l5 c5] 63)) := ⟨grown_trans L3.out.1 hg, (hg.block _ (lt_of_block L3.out.2.1) (by simp)).trans L3.out.2.1⟩
  clear C2 hg L3 y0 y1 y2 y3 y4 y5 y6 y7 y8
  obtain ⟨⟨y0, y1, y2, y3, y4, y5, y6, y7, y8⟩, -⟩ := blkBlock L4.out.2
  simp only []
  cases hq0 : lwF M (.cons 4 0 (.cons x.argk x.argn x.argf (.cons x.resk x.resn x.resf .nil)) .nil) with
  | false =>
    go_wp2
    go_ret
    exact ⟨by rw [HW.out]; simp [hq0], L4.out.1⟩
  | true =>
    have C3 : Hid _ := areLowT x.env a1 l1 c1 M v0 (HS.out _ L4.out.1).1.1 hM
    go_wp2_with fail
    refine Calls.mono C3.out ?_
    rintro e v1 ⟨he, hg⟩
    subst he
    have L5 : Hid (w.grownBy v1 none ∧ v1.heap[p0]? = some (Obj.cells #[.slice a1 l1 c1, .int .i64 x.argk, .int .i64 x.argn, .slice a2 l2 c2, .int .i64 x.resk, .int .i64 x.resn, .slice a3 l3 c3, .slice a4 l4 c4, .slice a5 l5 c5] 63)) := ⟨grown_trans L4.out.1 hg, (hg.block _ (lt_of_block L4.out.2) (by simp)).trans L4.out.2⟩
    clear C3 hg L4 y0 y1 y2 y3 y4 y5 y6 y7 y8
    obtain ⟨⟨y0, y1, y2, y3, y4, y5, y6, y7, y8⟩, -⟩ := blkBlock L5.out.2
    simp only []
    cases hq1 : lwF M x.env with
    | false =>
      go_wp2
      go_ret
      exact ⟨by rw [HW.out]; simp [hq0, hq1], L5.out.1⟩
    | true =>
      have C4 : Hid _ := areLowT x.locs a4 l4 c4 M v1 (HS.out _ L5.out.1).1.2.2.2.1 hM
      go_wp2_with fail
      refine Calls.mono C4.out ?_
      rintro e v2 ⟨he, hg⟩
      subst he
      have L6 : Hid (w.grownBy v2 none ∧ v2.heap[p0]? = some (Obj.cells #[.slice a1 l1 c1, .int .i64 x.argk, .int .i64 x.argn, .slice a2 l2 c2, .int .i64 x.resk, .int .i64 x.resn, .slice a3 l3 c3, .slice a4 l4 c4, .slice a5 l5 c5] 63)) := ⟨grown_trans L5.out.1 hg, (hg.block _ (lt_of_block L5.out.2) (by simp)).trans L5.out.2⟩
      clear C4 hg L5 y0 y1 y2 y3 y4 y5 y6 y7 y8
      obtain ⟨⟨y0, y1, y2, y3, y4, y5, y6, y7, y8⟩, -⟩ := blkBlock L6.out.2
      simp only []
      cases hq2 : lwF M x.locs with
      | false =>
        go_wp2
        go_ret
        exact ⟨by rw [HW.out]; simp [hq0, hq1, hq2], L6.out.1⟩
      | true =>
        have C5 : Hid _ := containsNn x.code a5 l5 c5 v2 (HS.out _ L6.out.1).1.2.2.2.2 (HS.out _ L6.out.1).2
        go_wp2_with fail
        refine Calls.mono C5.out ?_
        rintro e v3 ⟨he, hg⟩
        subst he
        have L7 : Hid (w.grownBy v3 none ∧ v3.heap[p0]? = some (Obj.cells #[.slice a1 l1 c1, .int .i64 x.argk, .int .i64 x.argn, .slice a2 l2 c2, .int .i64 x.resk, .int .i64 x.resn, .slice a3 l3 c3, .slice a4 l4 c4, .slice a5 l5 c5] 63)) := ⟨grown_trans L6.out.1 hg, (hg.block _ (lt_of_block L6.out.2) (by simp)).trans L6.out.2⟩
        clear C5 hg L6 y0 y1 y2 y3 y4 y5 y6 y7 y8
        obtain ⟨⟨y0, y1, y2, y3, y4, y5, y6, y7, y8⟩, -⟩ := blkBlock L7.out.2
        simp only []
        go_wp2
        go_ret
        exact ⟨by rw [HW.out, hq0, hq1, hq2]; rfl, L7.out.1⟩

end Go.Proofs.YtpdkgmagjhibkaaGreatDoor.By
