/-
  The program's own set of binds: one more bind is tried. No statement is proved here.
-/
import Derived.Test.YtmlganaiajhjeaaUS
import Derived.Deep.RegionHeld
namespace Go.Proofs.Ytmlganaiajhjeaa.By
open Go.RowKit
set_option linter.unusedVariables false
set_option linter.unusedSimpArgs false

theorem step_ofU {P : Program} {ops : Array Oper} {o : Oper} {ac : Act} {w : World} {K : Act → World → Prop} {Q : Exit → Act → World → Prop} {E : Prop} (hg : o.guard = none) (h : Oper.wp P o ac w K Q) : if Region.wanted o (yielded ops ac.tmps) = true then Oper.wp P o ac w K Q else E := by
  have hw : Region.wanted o (yielded ops ac.tmps) = true := by simp [Region.wanted, hg]
  rw [if_pos hw]
  exact h
theorem lt_of_block' {w : World} {g : Nat} {o : Obj} (h : w.heap[g]? = some o) : g < w.heap.size := (Array.getElem?_eq_some_iff.1 h).1
theorem fixBut {w u : World} {g : Nat} {t : TypeId} (h : w.grownBy u (some g)) (hg : ∀ cur, w.heap[g]? ≠ some (.cells cur t (0, 0))) : ∀ (i : Nat) (cur : Array Value), w.heap[i]? = some (.cells cur t (0, 0)) → u.heap[i]? = w.heap[i]? :=
  fun i cur hc => h.block i (lt_of_block hc) (fun e => by cases e; exact hg cur hc)
theorem Vals.put {w : World} {T : Int → Option Value} {L : B} (h : Vals w T L) {v k n : Int} {d : F} {a : Option Addr} {l c : Nat} (hs : SlD w 25 a l d) (hv : L.dom.contains v = false) : Vals w (updT T v (some (.agg #[.int .i64 k, .int .i64 n, .slice a l c]))) (L.app (.cons v k n d .nil)) := by
  intro x
  have h0 := h x
  rw [B.find_app]
  by_cases hx : x = v
  · subst hx
    have : L.find x = none := by
      have := B.find_dom L x
      rw [hv] at this
      cases hf : L.find x with
      | none => rfl
      | some y => rw [hf] at this; simp at this
    rw [this]
    simp only [B.find, if_true]
    exact ⟨a, l, c, if_pos rfl, hs⟩
  · cases hf : L.find x with
    | none =>
      rw [hf] at h0
      simp only [B.find, if_neg (show ¬ v = x from fun e => hx e.symm)]
      show updT T v _ x = none
      rw [updT, if_neg hx]; exact h0
    | some y =>
      rw [hf] at h0
      obtain ⟨a', l', c', e, h1⟩ := h0
      exact ⟨a', l', c', by rw [updT, if_neg hx]; exact e, h1⟩


set_option maxRecDepth 8000 in
set_option maxHeartbeats 2000000 in
theorem tryT (B0 : Nat) (p m : Nat) (oa : Option Addr) (oc : Nat) (L : B) (v k n : Int) (d : F) (a : Option Addr) (l c : Nat) (w : World) (h : BS B0 w p m oa oc L) (hS : SlD w 25 a l d) (hv : I64x v) (hnv : L.dom.contains v = false) (hds : d.size ≤ 1000) (hL : L.len ≤ 200000) (hx : ∀ x ∈ vT k n d, I64x x) :
    Calls Try.prog 77 #[.pointer (some ⟨p, 0, none⟩), .int .i64 v, .agg #[.int .i64 k, .int .i64 n, .slice a l c]] w fun e u => e = .returned (.bool (!(vT k n d).any (badX L v))) ∧ FrS B0 w u ∧ ((vT k n d).any (badX L v) = false → ∃ oa' oc', BS B0 u p m oa' oc' (L.app (.cons v k n d .nil))) := by
  obtain ⟨T, hM, hV⟩ := h.has
  have ga := World.grownBy_alloc w (.cells #[.int .i64 k, .int .i64 n, .slice a l c] 25) none
  have gd := grown_drew ga
  have hb0 := (gd.block p (lt_of_block h.box) (by simp)).trans h.box
  have LA : Hid (w.grownBy (w.alloc (.cells #[.int .i64 k, .int .i64 n, .slice a l c] 25)).drew none ∧ (w.alloc (.cells #[.int .i64 k, .int .i64 n, .slice a l c] 25)).drew.heap[w.heap.size]? = some (Obj.cells #[.int .i64 k, .int .i64 n, .slice a l c] 25) ∧ (w.alloc (.cells #[.int .i64 k, .int .i64 n, .slice a l c] 25)).drew.heap[p]? = some (Obj.cells #[.map (some m), .slice oa L.len oc] 112) ∧ MapIs (w.alloc (.cells #[.int .i64 k, .int .i64 n, .slice a l c] 25)).drew m L.len T ∧ Vals (w.alloc (.cells #[.int .i64 k, .int .i64 n, .slice a l c] 25)).drew T L ∧ SlD (w.alloc (.cells #[.int .i64 k, .int .i64 n, .slice a l c] 25)).drew 25 a l d ∧ OwI B0 (w.alloc (.cells #[.int .i64 k, .int .i64 n, .slice a l c] 25)).drew oa L.len oc L.dom) :=
    ⟨gd, heap_alloc_new w _, hb0, hM.kept gd (by simp), hV.fix fun i cur hc => gd.block i (lt_of_block hc) (by simp), hS.none gd, h.order.kept gd⟩
  have HP : Hid (B0 ≤ p ∧ B0 ≤ m ∧ B0 ≤ w.heap.size ∧ m < w.heap.size ∧ p < w.heap.size) := ⟨h.p0, h.m0, h.sz, hM.lt, lt_of_block h.box⟩
  have HX : Hid (∀ x ∈ vT k n d, I64x x) := hx
  have HV : Hid (L.dom.contains v = false) := hnv
  clear h hS hx hM hV ga gd hb0 hnv
  go_enter Try.func77, Try.ntmps77
  go_wp2_with fail
  refine wp_region_held_drew (S := (fun u => u.cell? ⟨p, 0, none⟩ = some (.map (some m)) ∧ Tri w.heap.size 0 (.int .i64 k) (.int .i64 n) (.slice a l c) u)) (by kernel_rfl) ⟨(two LA.out.2.2.1).1.1, (three LA.out.2.1).1⟩ (fun hH => ?_)
  generalize (w.alloc (.cells #[.int .i64 k, .int .i64 n, .slice a l c] 25)).drew = w1 at *
  generalize eq : w.heap.size = q at *
  simp only [List.size_toArray, List.length_cons, List.length_nil, Nat.reduceAdd, Array.replicate, List.replicate]
  refine wpAnyH_take (i := 0) (v := ?_) rfl (by kernel_rfl) (by kernel_rfl) (by kernel_rfl) (fun _ _ _ h => h) (Or.inl ⟨by rfl, ?_⟩) hH ?_
  rotate_left
  · (intro v hS; obtain ⟨x0, s0, s1, s2⟩ := hS; go_simp; try with_reducible rfl)
  simp only [Act.put, List.setIfInBounds_toArray, List.set_cons_zero, List.set_cons_succ, List.getElem_toArray, List.getElem_cons_succ, List.getElem_cons_zero]
  refine wpAnyH_take (i := 1) (v := ?_) rfl (by kernel_rfl) (by kernel_rfl) (by kernel_rfl) (fun _ _ _ h => h) (Or.inl ⟨by rfl, ?_⟩) hH ?_
  rotate_left
  · (intro v hS; obtain ⟨x0, s0, s1, s2⟩ := hS; go_simp; try with_reducible rfl)
  simp only [Act.put, List.setIfInBounds_toArray, List.set_cons_zero, List.set_cons_succ, List.getElem_toArray, List.getElem_cons_succ, List.getElem_cons_zero]
  refine wpAnyH_take (i := 2) (v := ?_) rfl (by kernel_rfl) (by kernel_rfl) (by kernel_rfl) (fun _ _ _ h => h) (Or.inl ⟨by rfl, ?_⟩) hH ?_
  rotate_left
  · (intro v hS; obtain ⟨x0, s0, s1, s2⟩ := hS; go_simp; try with_reducible rfl)
  simp only [Act.put, List.setIfInBounds_toArray, List.set_cons_zero, List.set_cons_succ, List.getElem_toArray, List.getElem_cons_succ, List.getElem_cons_zero]
  refine wpAnyH_take (i := 3) (v := ?_) rfl (by kernel_rfl) (by kernel_rfl) (by kernel_rfl) (fun _ _ _ h => h) (Or.inl ⟨by rfl, ?_⟩) hH ?_
  rotate_left
  · (intro v hS; obtain ⟨x0, s0, s1, s2⟩ := hS; go_simp; try with_reducible rfl)
  simp only [Act.put, List.setIfInBounds_toArray, List.set_cons_zero, List.set_cons_succ, List.getElem_toArray, List.getElem_cons_succ, List.getElem_cons_zero]
  refine wpAnyH_take (i := 4) (v := ?_) rfl (by kernel_rfl) (by kernel_rfl) (by kernel_rfl) (fun _ _ _ h => h) (Or.inl ⟨by rfl, ?_⟩) hH ?_
  rotate_left
  · (intro v hS; obtain ⟨x0, s0, s1, s2⟩ := hS; go_simp; try with_reducible rfl)
  simp only [Act.put, List.setIfInBounds_toArray, List.set_cons_zero, List.set_cons_succ, List.getElem_toArray, List.getElem_cons_succ, List.getElem_cons_zero]
  refine wpAnyH_take (i := 5) (v := ?_) rfl (by kernel_rfl) (by kernel_rfl) (by kernel_rfl) (fun _ _ _ h => h) (Or.inl ⟨by rfl, ?_⟩) hH ?_
  rotate_left
  · (intro v hS; obtain ⟨x0, s0, s1, s2⟩ := hS; go_simp; try with_reducible rfl)
  simp only [Act.put, List.setIfInBounds_toArray, List.set_cons_zero, List.set_cons_succ, List.getElem_toArray, List.getElem_cons_succ, List.getElem_cons_zero]
  refine wpAnyH_ready (rs := [6]) (by kernel_rfl) (by simp) ?_
  refine AllReadyH.cons rfl (fun K hK => ?_) AllReadyH.nil
  refine step_ofU rfl (wp_mapPut _ _ _ rfl LA.out.2.2.2.1 hv (by omega) _ rfl rfl rfl ?_)
  intro w2 hM2 hg2
  obtain ⟨es, clock, hmm⟩ := LA.out.2.2.2.1.isMap
  have fx : ∀ (t : TypeId) (i : Nat) (cur : Array Value), w1.heap[i]? = some (.cells cur t (0, 0)) → w2.heap[i]? = w1.heap[i]? := fun t => fixBut hg2 (fun cur e => by rw [hmm] at e; cases e)
  have FX : Hid (∀ u, w2.grownBy u none → FrS B0 w u ∧ u.heap[q]? = some (Obj.cells #[.int .i64 k, .int .i64 n, .slice a l c] 25) ∧ u.heap[p]? = some (Obj.cells #[.map (some m), .slice oa L.len oc] 112) ∧ MapIs u m (L.len + 1) (updT T v (some (.agg #[.int .i64 k, .int .i64 n, .slice a l c]))) ∧ Vals u (updT T v (some (.agg #[.int .i64 k, .int .i64 n, .slice a l c]))) (L.app (.cons v k n d .nil)) ∧ SlD u 25 a l d ∧ OwI B0 u oa L.len oc L.dom) := by
    intro u hu
    obtain ⟨r1, r2, r3, r4, r5, r6, r7⟩ := LA.out
    obtain ⟨p1, p2, p3, p4, p5⟩ := HP.out
    have hw1 := r1.size
    have s1 : FrS B0 w w2 := (FrS.grown r1 (by omega)).trans (FrS.row hg2 p2 (by omega) (fun cur t r e => by rw [hmm] at e; cases e))
    have s2 : SlD w2 25 a l d := r6.fix (fx _)
    have k2 : w2.heap[q]? = _ := (fx _ q _ r2).trans r2
    have k3 : w2.heap[p]? = _ := (fx _ p _ r3).trans r3
    exact ⟨s1.trans (FrS.grown hu (by have := hg2.size; omega)), (hu.block q (lt_of_block k2) (by simp)).trans k2, (hu.block p (lt_of_block k3) (by simp)).trans k3, hM2.kept hu (by simp), ((r5.fix (fx _)).put s2 HV.out).fix (fun i cur hc => hu.block i (lt_of_block hc) (by simp)), s2.none hu, (r7.of (fun g cur hc _ => fx 3 g cur hc)).kept hu⟩
  have G2 : Hid (w2.grownBy w2 none) := World.grownBy.refl _ _
  refine hK.out _ _ ⟨(two (FX.out w2 G2.out).2.2.1).1.1, (three (FX.out w2 G2.out).2.1).1⟩ (fun hH2 => ?_)
  clear fx hmm hg2 hM2 LA
  clear hK K hH
  have hH := hH2
  clear hH2
  simp only [Act.put, List.setIfInBounds_toArray, List.set_cons_zero, List.set_cons_succ, List.getElem_toArray, List.getElem_cons_succ, List.getElem_cons_zero]
  refine wpAnyH_done (by kernel_rfl) ?_ _
  clear hH
  have hvl := vT_len k n d
  have CV : Hid _ := addVarsT w2.heap.size (d.size + 1) d k n a l c (.slice none 0 0) [] w2 w2 (Nat.lt_succ_self _) (FX.out w2 G2.out).2.2.2.2.2.1.reads rfl (Below.refl _ _) ⟨rfl, .inl ⟨rfl, rfl⟩⟩ (by simp; omega)
  obtain ⟨⟨y0, y1, y2⟩, -⟩ := three (FX.out w2 G2.out).2.1
  go_wp2_with fail
  refine Calls.mono CV.out ?_
  rintro e w3 ⟨v', he, ho, hf⟩
  subst he
  simp only [List.nil_append] at ho
  obtain ⟨-, va, vc, hva, hO⟩ := ownsV ho
  subst hva
  have G3 : Hid (w2.grownBy w3 none) := grown_of_belowV hf.below
  have HH : ∀ u, w3.grownBy u none → ∀ x ∈ vT k n d, Calls Try.prog 76 #[.pointer (some ⟨p, 0, none⟩), .int .i64 x] u fun e u' => e = .returned (.bool (badX L v x)) ∧ u.grownBy u' none := by
    intro u hu x hx
    obtain ⟨-, -, f3, f4, f5, -, -⟩ := FX.out u (grown_trans G3.out hu)
    have := bindsAskG p m _ _ x (HX.out x hx) u (two f3).1.1 f4 (f5.aggs x)
    rw [f5.isIn x, B.dom_app, show (L.dom ++ (B.cons v k n d .nil).dom).contains x = badX L v x by
      simp only [B.dom, List.contains_append, badX]
      rw [Bool.or_comm]
      congr 1
      simp] at this
    exact this
  have CC : Hid _ := containsI (vT k n d) (.pointer (some ⟨p, 0, none⟩)) (badX L v) va vc w3 hO.reads (by omega) HH
  clear HH hO ho hf CV y0 y1 y2 G2
  simp only []
  go_wp2_with fail
  refine Calls.mono CC.out ?_
  rintro e w4 ⟨he, hg⟩
  subst he
  have G4 : Hid (w2.grownBy w4 none) := grown_trans G3.out hg
  have FY : Hid _ := FX.out w4 G4.out
  clear hg CC G3 FX G4
  obtain ⟨⟨y0, y1⟩, f0, f1⟩ := two FY.out.2.2.1
  simp only []
  cases hta : (vT k n d).any (badX L v) with
  | true =>
    have ET : Hid ((vT k n d).any (badX L v) = true) := hta
    clear hta
    go_wp2_with (at_delete; go_must (refine wpList_mapDel rfl _ _ rfl FY.out.2.2.2.1 hv rfl rfl ?_); intro w5 hM5 hg5)
    have FZ : Hid (FrS B0 w w5) := by
      obtain ⟨es, clock, hmm⟩ := FY.out.2.2.2.1.isMap
      obtain ⟨p1, p2, p3, p4, p5⟩ := HP.out
      exact FY.out.1.trans (FrS.row hg5 p2 (by have := FY.out.1.below.size; omega) (fun cur t r e => by rw [hmm] at e; cases e))
    clear FY hM5 hg5
    go_wp2
    go_ret
    exact ⟨by rw [ET.out]; rfl, FZ.out, fun h => by rw [ET.out] at h; cases h⟩
  | false =>
    have ET : Hid ((vT k n d).any (badX L v) = false) := hta
    clear hta
    obtain ⟨i0, hi, hz0, hz1, hz2⟩ := info_parts infoV
    have ga := World.grownBy_alloc w4 (.cells #[.int .i64 v] 3) none
    have hsz := FY.out.1.below.size
    have LB : Hid ((w4.alloc (.cells #[.int .i64 v] 3)).ownsRow B0 3 1 (.slice oa L.len oc) L.len (valsI L.dom) ∧ ReadsI (w4.alloc (.cells #[.int .i64 v] 3)) (some ⟨w4.heap.size, 0, none⟩) 1 [v] ∧ B0 ≤ (w4.alloc (.cells #[.int .i64 v] 3)).heap.size) := ⟨(FY.out.2.2.2.2.2.2.kept ga).1, readsOne w4 v 3, by have := ga.size; have := HP.out.2.2.1; omega⟩
    have LC : Hid (FrS B0 w (w4.alloc (.cells #[.int .i64 v] 3)) ∧ (w4.alloc (.cells #[.int .i64 v] 3)).heap[p]? = some (Obj.cells #[.map (some m), .slice oa L.len oc] 112) ∧ MapIs (w4.alloc (.cells #[.int .i64 v] 3)) m (L.len + 1) (updT T v (some (.agg #[.int .i64 k, .int .i64 n, .slice a l c]))) ∧ Vals (w4.alloc (.cells #[.int .i64 v] 3)) (updT T v (some (.agg #[.int .i64 k, .int .i64 n, .slice a l c]))) (L.app (.cons v k n d .nil)) ∧ OwI B0 (w4.alloc (.cells #[.int .i64 v] 3)) oa L.len oc L.dom) := ⟨FY.out.1.trans (FrS.grown ga (by have := HP.out.2.2.1; omega)), (ga.block p (lt_of_block FY.out.2.2.1) (by simp)).trans FY.out.2.2.1, FY.out.2.2.2.1.kept ga (by simp), FY.out.2.2.2.2.1.fix (fun i cur hc => ga.block i (lt_of_block hc) (by simp)), FY.out.2.2.2.2.2.2.kept ga⟩
    clear ga FY hsz
    go_wp2_with (at_builtin; go_must (refine wpList_appI rfl (.tmp 27) (.tmp 29) 33 rfl B0 i0 (.int .i64 0) Try.underlying33 hi hz0 hz1 hz2 rfl (.slice oa L.len oc) L.len L.dom rfl LB.out.1 (some ⟨w4.heap.size, 0, none⟩) 1 1 [v] rfl LB.out.2.1 (by simp) (by omega) LB.out.2.2 ?_); intro v5 w5 o5 g5 n5; obtain ⟨-, oa5, oc5, hv5, hO5⟩ := ownsV o5; subst hv5; have hb5 := LC.out.2.2.2.2.box g5 LC.out.2.1 (by decide); obtain ⟨⟨z0, z1⟩, h0, h1⟩ := two hb5)
    generalize w4.alloc (.cells #[.int .i64 v] 3) = wa at *
    have LD : Hid (wa.grownBy w5 (Value.slice oa L.len oc).ownBlock ∧ w5.heap[p]? = some (Obj.cells #[.map (some m), .slice oa L.len oc] 112) ∧ OwI B0 w5 oa5 (L.len + 1) oc5 (L.dom ++ [v])) := ⟨g5, hb5, hO5⟩
    clear g5 hb5 hO5 o5 n5 LB
    go_ret
    have g6 := grown_setCell w5 p 1 (.slice oa5 (L.len + 1) oc5)
    obtain ⟨r1, r2, r3, r4, r5⟩ := LC.out
    obtain ⟨q1, q2, q3⟩ := LD.out
    obtain ⟨p1, p2, p3, p4, p5⟩ := HP.out
    obtain ⟨es', clock', hmm⟩ := r3.isMap
    have hmo : ∀ g, (Value.slice oa L.len oc).ownBlock = some g → g ≠ m := fun g hg e => by
      subst e
      obtain ⟨h1, h2⟩ := r5
      rcases h1.2 with ⟨e, _⟩ | ⟨g', cap, cur, e, _, hc, _⟩
      · rw [e] at hg; cases hg
      · rw [e] at hg; cases hg; rw [hmm] at hc; cases hc
    have em5 : w5.heap[m]? = wa.heap[m]? := q1.block m (lt_of_block' hmm) (fun e => hmo m e.symm rfl)
    have pm : p ≠ m := fun e => by subst e; rw [hmm] at r2; cases r2
    have em6 := (g6.block m (by have := q1.size; have := lt_of_block' hmm; omega) (fun e => pm (by cases e; rfl))).trans em5
    have fr5 : FrS B0 wa w5 := ⟨(Below.refl _ _).grown q1 (by have := r1.below.size; omega) (fun g hg => (r5.lt g hg).1), fun i cur t r hi h1 h2 => (q1.block i (lt_of_block hi) (fun e => by
      obtain ⟨h3, h4⟩ := r5
      rcases h3.2 with ⟨e1, _⟩ | ⟨g', cap, cur', e1, _, hc, _⟩
      · rw [e1] at e; cases e
      · rw [e1] at e; cases e; rw [hi] at hc; cases hc; exact h1 rfl)).trans hi⟩
    have fr6 : FrS B0 w5 (w5.setCell ⟨p, 1, none⟩ (.slice oa5 (L.len + 1) oc5)) := FrS.row g6 p1 (by have := fr5.below.size; have := r1.below.size; omega) (fun cur t r e => by rw [q2] at e; cases e; exact .inr rfl)
    have hlen : (L.app (.cons v k n d .nil)).len = L.len + 1 := by rw [B.app_len]; rfl
    have hdom : (L.app (.cons v k n d .nil)).dom = L.dom ++ [v] := by rw [B.dom_app]; rfl
    refine ⟨by rw [ET.out]; rfl, (r1.trans fr5).trans fr6, fun _ => ⟨oa5, oc5, ?_, ?_, ⟨updT T v (some (.agg #[.int .i64 k, .int .i64 n, .slice a l c])), ?_, ?_⟩, p1, p2, ?_⟩⟩
    · rw [hlen]; exact heap_setCell_same w5 p 1 _ _ _ q2
    · rw [hlen, hdom]
      exact q3.of (fun g cur hc _ => g6.block g (lt_of_block hc) (fun e => by cases e; rw [q2] at hc; cases hc))
    · rw [hlen]; exact r3.of em6
    · exact (r4.fix (fr5.ty (by decide) (by decide))).fix (fr6.ty (by decide) (by decide))
    · have := fr6.below.size; have := fr5.below.size; have := r1.below.size; omega
end Go.Proofs.Ytmlganaiajhjeaa.By
