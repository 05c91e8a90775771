/-
  The document's drawn world, by its contract. No statement is proved here.
-/
import Derived.Test.YtccnninmkfhejaaYDw
namespace Go.Proofs.Ytccnninmkfhejaa.By
open Go.RowKit
set_option linter.unusedVariables false
set_option linter.unusedSimpArgs false

def Wb (N M : Nat) (x : RWorld) : Prop := x.draws.length ≤ N ∧ x.store.length ≤ M ∧ (-10 ≤ x.ticks ∧ x.ticks ≤ 4294967296)
def DrawnW (w0 w : World) (B g : Nat) (a : Option Addr) (n cap N M : Nat) (e : Ending) (u : World) : Prop :=
  ∃ (x : RWorld) (d1 : Option Addr) (l1 k1 : Nat) (d2 : Option Addr) (l2 k2 : Nat), e = .returned (.agg #[.int .i64 x.ticks, .slice d1 l1 k1, .slice d2 l2 k2, .slice none 0 0]) ∧ DR w0 w u B g a n cap x d1 l1 k1 d2 l2 k2 ∧ Wb N M x
theorem cell_newI {w : World} {q : Nat} {v : Value} (h : w.heap[q]? = some (.cells #[v] 3 (0, 0))) : ∀ j x, ([v] : List Value)[j]? = some x → w.cell? ((⟨q, 0, none⟩ : Addr).add j) = some x := fun j x hj => by
  rw [Go.WideShapes.add_plain, Nat.zero_add, cell_of_row _ q j _ 3 (0, 0) h]
  match j, hj with
  | 0, hj => exact hj
  | j + 1, hj => simp at hj
theorem DR.len1 {w0 w u : World} {B g : Nat} {a : Option Addr} {n cap : Nat} {x : RWorld} {d1 : Option Addr} {l1 k1 : Nat} {d2 : Option Addr} {l2 k2 : Nat} (h : DR w0 w u B g a n cap x d1 l1 k1 d2 l2 k2) : x.draws.length = l1 := by have := h.dr.1; rw [vI_len] at this; omega
theorem DR.len2 {w0 w u : World} {B g : Nat} {a : Option Addr} {n cap : Nat} {x : RWorld} {d1 : Option Addr} {l1 k1 : Nat} {d2 : Option Addr} {l2 k2 : Nat} (h : DR w0 w u B g a n cap x d1 l1 k1 d2 l2 k2) : x.store.length = l2 := by have := h.st.1; rw [vE_len] at this; omega

set_option maxRecDepth 8000 in
set_option maxHeartbeats 8000000 in
theorem lworldT (w0 w : World) (B g : Nat) (a : Option Addr) (n cap : Nat) (zs : List Int) (hr : Reads w0 a n zs) (hz : Byt zs) (hn : n ≤ 9223372036854775807) (hc : Cur w0 w g a n cap) (gB : g < B) (Bw : B ≤ w.heap.size) :
    Calls Try.prog 22 #[.pointer (some ⟨g, 0, none⟩)] w fun e u => DrawnW w0 w B g a n cap 5 3 e u := by
  have hB := fun w hc m hm hm1 => belowT w0 w g a n cap zs hr hz hn hc m hm hm1
  have HB : Hid (∀ w, Cur w0 w g a n cap → ∀ m : Int, 0 < m → m ≤ 9223372036854775807 → Calls Try.prog 23 #[.pointer (some ⟨g, 0, none⟩), .int .i64 m] w fun e w' => ∃ x, e = .returned (.int .i64 x) ∧ 0 ≤ x ∧ x < m ∧ Kept w0 w w' g a n cap) := hB
  have ga0 := World.grownBy_alloc w (.cells #[.int .i64 0, .slice none 0 0, .slice none 0 0, .slice none 0 0] 27) none
  have H0 : Hid (Cur w0 (w.alloc (.cells #[.int .i64 0, .slice none 0 0, .slice none 0 0, .slice none 0 0] 27)) g a n cap ∧ w.grownBy (w.alloc (.cells #[.int .i64 0, .slice none 0 0, .slice none 0 0, .slice none 0 0] 27)) none ∧ (w.alloc (.cells #[.int .i64 0, .slice none 0 0, .slice none 0 0, .slice none 0 0] 27)).heap[w.heap.size]? = some (Obj.cells #[.int .i64 0, .slice none 0 0, .slice none 0 0, .slice none 0 0] 27 (0, 0)) ∧ (w.alloc (.cells #[.int .i64 0, .slice none 0 0, .slice none 0 0, .slice none 0 0] 27)).heap.size = w.heap.size + 1) := ⟨hc.none ga0, ga0, heap_alloc_new w _, by simp⟩
  clear hB hr hz hn hc ga0
  go_enter Try.func22, Try.ntmps22
  go_wp2_with fail
  generalize (w.alloc (.cells #[.int .i64 0, .slice none 0 0, .slice none 0 0, .slice none 0 0] 27)) = w1 at *
  obtain ⟨r, hr⟩ : ∃ r, w.heap.size = r := ⟨_, rfl⟩
  rw [hr] at H0 Bw ⊢
  have HR : Hid (w.heap.size = r) := hr
  clear hr
  refine Calls.mono (HB.out w1 H0.out.1 3 (by omega) (by omega)) ?_
  rintro e w2 ⟨tk, rfl, ht0, ht1, hk⟩
  have R0 : Hid (DR w0 w1 w2 (r + 1) g a n cap ⟨tk, [], [], []⟩ none 0 0 none 0 0) := by
    obtain ⟨h1, h2, h3, h4⟩ := H0.out
    exact ⟨hk.1, (Bg.refl _ _ _).grown hk.2 (by omega) (fun b e => .inl (Option.some.inj e).symm), by omega, by have := hk.2.size; omega, rfl, World.ownsRow_nil _ _ _ _, World.ownsRow_nil _ _ _ _⟩
  have D : Hid _ := R0.out.boxed
  clear hk R0
  go_wp2_with fail
  generalize (w2.alloc (.cells #[.int .i64 tk, .slice none 0 0, .slice none 0 0, .slice none 0 0] 27)) = w3 at *
  generalize w2.heap.size = q at *
  refine Calls.mono (HB.out w3 D.out.cur 6 (by omega) (by omega)) ?_
  rintro e w4 ⟨m, rfl, hm0, hm1, hk⟩
  have D2 : Hid (DW w0 w1 w4 (r + 1) g a n cap q ⟨tk, [], [], []⟩ none 0 0 none 0 0) := D.out.drawn hk
  clear hk D
  have D := D2
  clear D2
  go_wp2_with fail
  go_loopw [5] (fun i wr => ∃ (j : Nat) (y : RWorld) (d1 : Option Addr) (l1 k1 : Nat), (j : Int) ≤ m ∧ i = .int .i64 j ∧ Hid (DW w0 w1 wr (r + 1) g a n cap q y d1 l1 k1 none 0 0 ∧ y.store = [] ∧ y.ticks = tk) ∧ l1 = j) (fun i _ => m.toNat - (intOf i).toNat)
  case atStart => exact ⟨0, ⟨tk, [], [], []⟩, none, 0, 0, by omega, rfl, ⟨D.out, rfl, rfl⟩, rfl⟩
  case round =>
    obtain ⟨j, y, d1, l1, k1, hj, rfl, HL, rfl⟩ := hrel
    clear D
    by_cases hlt : (l1 : Int) < m
    · have D : Hid (DW w0 w1 wr.drew (r + 1) g a n cap q y d1 l1 k1 none 0 0) := HL.out.1.none (grown_drew (World.grownBy.refl _ _))
      have HY : Hid (y.store = [] ∧ y.ticks = tk) := HL.out.2
      clear HL
      go_wp2_with fail
      refine wp_region_held_drew (S := (fun _ => True)) (by kernel_rfl) trivial (fun hH => ?_)
      generalize wr.drew = u0 at *
      simp only [List.size_toArray, List.length_cons, List.length_nil, Nat.reduceAdd, Array.replicate, List.replicate]
      refine wpAnyH_take (i := 0) (v := ?_) rfl (by kernel_rfl) (by kernel_rfl) (by kernel_rfl) (fun _ _ _ h => h) (Or.inl ⟨by rfl, ?_⟩) hH ?_
      rotate_left
      · (intro v hS; go_simp; try with_reducible rfl)
      simp only [Act.put, List.setIfInBounds_toArray, List.set_cons_zero, List.set_cons_succ, List.getElem_toArray, List.getElem_cons_succ, List.getElem_cons_zero]
      refine wpAnyH_take (i := 2) (v := ?_) rfl (by kernel_rfl) (by kernel_rfl) (by kernel_rfl) (fun _ _ _ h => h) (Or.inl ⟨by rfl, ?_⟩) hH ?_
      rotate_left
      · (intro v hS; go_simp; try with_reducible rfl)
      simp only [Act.put, List.setIfInBounds_toArray, List.set_cons_zero, List.set_cons_succ, List.getElem_toArray, List.getElem_cons_succ, List.getElem_cons_zero]
      refine wpAnyH_ready (rs := [1, 3]) (by kernel_rfl) (by simp) ?_
      refine AllReadyH.cons rfl (fun K hK => ?_) ?_
      · skip
        have yy := (blkWorld D.out.box).1
        obtain ⟨y0, y1, y2, y3⟩ := yy
        go_simp
        refine hK.out _ _ trivial (fun hH2 => ?_)
        clear hK K hH
        have hH := hH2
        clear hH2
        simp only [Act.put, List.setIfInBounds_toArray, List.set_cons_zero, List.set_cons_succ, List.getElem_toArray, List.getElem_cons_succ, List.getElem_cons_zero]
        clear y0 y1 y2 y3
        refine wpAnyH_ready (rs := [3]) (by kernel_rfl) (by simp) ?_
        refine AllReadyH.cons rfl (fun K hK => ?_) AllReadyH.nil
        go_simp
        refine Calls.mono (HB.out u0 D.out.cur 2147483647 (by omega) (by omega)) ?_
        rintro e v1 ⟨c0, rfl, hc0, hc1, hk⟩
        have D2 : Hid (DW w0 w1 v1 (r + 1) g a n cap q y d1 l1 k1 none 0 0) := D.out.drawn hk
        clear D
        have D := D2
        clear D2
        clear hk
        refine hK.out _ _ trivial (fun hH2 => ?_)
        clear hK K hH
        have hH := hH2
        clear hH2
        simp only [Act.put, List.setIfInBounds_toArray, List.set_cons_zero, List.set_cons_succ, List.getElem_toArray, List.getElem_cons_succ, List.getElem_cons_zero]
        refine wpAnyH_ready (rs := [4]) (by kernel_rfl) (by simp) ?_
        refine AllReadyH.cons rfl (fun K hK => ?_) AllReadyH.nil
        go_simp
        have ga := World.grownBy_alloc v1 (.cells #[.int .i64 c0] 3) none
        have ba := heap_alloc_new v1 (.cells #[.int .i64 c0] 3)
        have D2 : Hid (DW w0 w1 (v1.alloc (.cells #[.int .i64 c0] 3)) (r + 1) g a n cap q y d1 l1 k1 none 0 0) := D.out.none ga
        clear D
        have NB : Hid ((v1.alloc (.cells #[.int .i64 c0] 3)).heap[v1.heap.size]? = some (Obj.cells #[.int .i64 c0] 3 (0, 0))) := ba
        clear ga ba
        generalize (v1.alloc (.cells #[.int .i64 c0] 3)) = v2 at *
        generalize v1.heap.size = b3 at *
        have D := D2
        clear D2
        refine hK.out _ _ trivial (fun hH2 => ?_)
        clear hK K hH
        have hH := hH2
        clear hH2
        simp only [Act.put, List.setIfInBounds_toArray, List.set_cons_zero, List.set_cons_succ, List.getElem_toArray, List.getElem_cons_succ, List.getElem_cons_zero]
        refine wpAnyH_ready (rs := [5]) (by kernel_rfl) (by simp) ?_
        refine AllReadyH.cons rfl (fun K hK => ?_) AllReadyH.nil
        obtain ⟨i0, hi0, hz0, hz1, hz2⟩ := info_parts infoYi
        refine step_ofY rfl (wp_append_own _ (.tmp 18) (.tmp 21) 23 rfl (r + 1) 3 i0 _ 1 8 Try.underlying23 hi0 hz0 hz1 hz2 rfl (by decide) (.slice d1 l1 k1) l1 (vI y.draws) rfl D.out.dr ⟨b3, 0, none⟩ 1 1 [.int .i64 c0] rfl rfl (cell_newI NB.out) (by simp [Value.oneCell']) (by unfold maxLen; omega) (by omega) D.out.Bu ?_)
        intro vv v4 ho hg _
        obtain ⟨d', k', rfl⟩ := row_slice ho
        rw [vI_app] at ho
        have AP : Hid _ := D.out.app1 hg ho
        clear hg ho D NB i0 hi0 hz0 hz1 hz2
        refine hK.out _ _ trivial (fun hH2 => ?_)
        clear hK K hH
        have hH := hH2
        clear hH2
        simp only [Act.put, List.setIfInBounds_toArray, List.set_cons_zero, List.set_cons_succ, List.getElem_toArray, List.getElem_cons_succ, List.getElem_cons_zero]
        refine wpAnyH_take (i := 6) (v := ?_) rfl (by kernel_rfl) (by kernel_rfl) (by kernel_rfl) (fun _ _ _ h => h) (Or.inl ⟨by rfl, ?_⟩) hH ?_
        rotate_left
        · (intro v hS; go_simp; try with_reducible rfl)
        simp only [Act.put, List.setIfInBounds_toArray, List.set_cons_zero, List.set_cons_succ, List.getElem_toArray, List.getElem_cons_succ, List.getElem_cons_zero]
        refine wpAnyH_ready (rs := [7]) (by kernel_rfl) (by simp) ?_
        refine AllReadyH.cons rfl (fun K hK => ?_) AllReadyH.nil
        have yy := (blkWorld AP.out.1).1
        obtain ⟨y0, y1, y2, y3⟩ := yy
        have ff := (blkWorld AP.out.1).2 1
        go_simp
        have D : Hid _ := AP.out.2
        clear y0 y1 y2 y3 ff AP
        generalize (v4.setCell ⟨q, 1, none⟩ (.slice d' (l1 + 1) k')) = v5 at *
        refine hK.out _ _ trivial (fun hH2 => ?_)
        clear hK K hH
        have hH := hH2
        clear hH2
        simp only [Act.put, List.setIfInBounds_toArray, List.set_cons_zero, List.set_cons_succ, List.getElem_toArray, List.getElem_cons_succ, List.getElem_cons_zero]
        refine wpAnyH_done (by kernel_rfl) ?_ _
        go_wp2
        go_roundw
        case rel => exact ⟨l1 + 1, { y with draws := y.draws ++ [c0] }, d', l1 + 1, k', by omega, by go_num, ⟨D.out, HY.out.1, HY.out.2⟩, rfl⟩
        case measure => simp [intOf]; omega
      refine AllReadyH.cons rfl (fun K hK => ?_) AllReadyH.nil
      · skip
        go_simp
        refine Calls.mono (HB.out u0 D.out.cur 2147483647 (by omega) (by omega)) ?_
        rintro e v6 ⟨c0, rfl, hc0, hc1, hk⟩
        have D2 : Hid (DW w0 w1 v6 (r + 1) g a n cap q y d1 l1 k1 none 0 0) := D.out.drawn hk
        clear D
        have D := D2
        clear D2
        clear hk
        refine hK.out _ _ trivial (fun hH2 => ?_)
        clear hK K hH
        have hH := hH2
        clear hH2
        simp only [Act.put, List.setIfInBounds_toArray, List.set_cons_zero, List.set_cons_succ, List.getElem_toArray, List.getElem_cons_succ, List.getElem_cons_zero]
        refine wpAnyH_ready (rs := [1, 4]) (by kernel_rfl) (by simp) ?_
        refine AllReadyH.cons rfl (fun K hK => ?_) ?_
        · skip
          have yy := (blkWorld D.out.box).1
          obtain ⟨y0, y1, y2, y3⟩ := yy
          go_simp
          refine hK.out _ _ trivial (fun hH2 => ?_)
          clear hK K hH
          have hH := hH2
          clear hH2
          simp only [Act.put, List.setIfInBounds_toArray, List.set_cons_zero, List.set_cons_succ, List.getElem_toArray, List.getElem_cons_succ, List.getElem_cons_zero]
          clear y0 y1 y2 y3
          refine wpAnyH_ready (rs := [4]) (by kernel_rfl) (by simp) ?_
          refine AllReadyH.cons rfl (fun K hK => ?_) AllReadyH.nil
          go_simp
          have ga := World.grownBy_alloc v6 (.cells #[.int .i64 c0] 3) none
          have ba := heap_alloc_new v6 (.cells #[.int .i64 c0] 3)
          have D2 : Hid (DW w0 w1 (v6.alloc (.cells #[.int .i64 c0] 3)) (r + 1) g a n cap q y d1 l1 k1 none 0 0) := D.out.none ga
          clear D
          have NB : Hid ((v6.alloc (.cells #[.int .i64 c0] 3)).heap[v6.heap.size]? = some (Obj.cells #[.int .i64 c0] 3 (0, 0))) := ba
          clear ga ba
          generalize (v6.alloc (.cells #[.int .i64 c0] 3)) = v7 at *
          generalize v6.heap.size = b8 at *
          have D := D2
          clear D2
          refine hK.out _ _ trivial (fun hH2 => ?_)
          clear hK K hH
          have hH := hH2
          clear hH2
          simp only [Act.put, List.setIfInBounds_toArray, List.set_cons_zero, List.set_cons_succ, List.getElem_toArray, List.getElem_cons_succ, List.getElem_cons_zero]
          refine wpAnyH_ready (rs := [5]) (by kernel_rfl) (by simp) ?_
          refine AllReadyH.cons rfl (fun K hK => ?_) AllReadyH.nil
          obtain ⟨i0, hi0, hz0, hz1, hz2⟩ := info_parts infoYi
          refine step_ofY rfl (wp_append_own _ (.tmp 18) (.tmp 21) 23 rfl (r + 1) 3 i0 _ 1 8 Try.underlying23 hi0 hz0 hz1 hz2 rfl (by decide) (.slice d1 l1 k1) l1 (vI y.draws) rfl D.out.dr ⟨b8, 0, none⟩ 1 1 [.int .i64 c0] rfl rfl (cell_newI NB.out) (by simp [Value.oneCell']) (by unfold maxLen; omega) (by omega) D.out.Bu ?_)
          intro vv v9 ho hg _
          obtain ⟨d', k', rfl⟩ := row_slice ho
          rw [vI_app] at ho
          have AP : Hid _ := D.out.app1 hg ho
          clear hg ho D NB i0 hi0 hz0 hz1 hz2
          refine hK.out _ _ trivial (fun hH2 => ?_)
          clear hK K hH
          have hH := hH2
          clear hH2
          simp only [Act.put, List.setIfInBounds_toArray, List.set_cons_zero, List.set_cons_succ, List.getElem_toArray, List.getElem_cons_succ, List.getElem_cons_zero]
          refine wpAnyH_take (i := 6) (v := ?_) rfl (by kernel_rfl) (by kernel_rfl) (by kernel_rfl) (fun _ _ _ h => h) (Or.inl ⟨by rfl, ?_⟩) hH ?_
          rotate_left
          · (intro v hS; go_simp; try with_reducible rfl)
          simp only [Act.put, List.setIfInBounds_toArray, List.set_cons_zero, List.set_cons_succ, List.getElem_toArray, List.getElem_cons_succ, List.getElem_cons_zero]
          refine wpAnyH_ready (rs := [7]) (by kernel_rfl) (by simp) ?_
          refine AllReadyH.cons rfl (fun K hK => ?_) AllReadyH.nil
          have yy := (blkWorld AP.out.1).1
          obtain ⟨y0, y1, y2, y3⟩ := yy
          have ff := (blkWorld AP.out.1).2 1
          go_simp
          have D : Hid _ := AP.out.2
          clear y0 y1 y2 y3 ff AP
          generalize (v9.setCell ⟨q, 1, none⟩ (.slice d' (l1 + 1) k')) = v10 at *
          refine hK.out _ _ trivial (fun hH2 => ?_)
          clear hK K hH
          have hH := hH2
          clear hH2
          simp only [Act.put, List.setIfInBounds_toArray, List.set_cons_zero, List.set_cons_succ, List.getElem_toArray, List.getElem_cons_succ, List.getElem_cons_zero]
          refine wpAnyH_done (by kernel_rfl) ?_ _
          go_wp2
          go_roundw
          case rel => exact ⟨l1 + 1, { y with draws := y.draws ++ [c0] }, d', l1 + 1, k', by omega, by go_num, ⟨D.out, HY.out.1, HY.out.2⟩, rfl⟩
          case measure => simp [intOf]; omega
        refine AllReadyH.cons rfl (fun K hK => ?_) AllReadyH.nil
        · skip
          go_simp
          have ga := World.grownBy_alloc v6 (.cells #[.int .i64 c0] 3) none
          have ba := heap_alloc_new v6 (.cells #[.int .i64 c0] 3)
          have D2 : Hid (DW w0 w1 (v6.alloc (.cells #[.int .i64 c0] 3)) (r + 1) g a n cap q y d1 l1 k1 none 0 0) := D.out.none ga
          clear D
          have NB : Hid ((v6.alloc (.cells #[.int .i64 c0] 3)).heap[v6.heap.size]? = some (Obj.cells #[.int .i64 c0] 3 (0, 0))) := ba
          clear ga ba
          generalize (v6.alloc (.cells #[.int .i64 c0] 3)) = v11 at *
          generalize v6.heap.size = b12 at *
          have D := D2
          clear D2
          refine hK.out _ _ trivial (fun hH2 => ?_)
          clear hK K hH
          have hH := hH2
          clear hH2
          simp only [Act.put, List.setIfInBounds_toArray, List.set_cons_zero, List.set_cons_succ, List.getElem_toArray, List.getElem_cons_succ, List.getElem_cons_zero]
          refine wpAnyH_ready (rs := [1]) (by kernel_rfl) (by simp) ?_
          refine AllReadyH.cons rfl (fun K hK => ?_) AllReadyH.nil
          have yy := (blkWorld D.out.box).1
          obtain ⟨y0, y1, y2, y3⟩ := yy
          go_simp
          refine hK.out _ _ trivial (fun hH2 => ?_)
          clear hK K hH
          have hH := hH2
          clear hH2
          simp only [Act.put, List.setIfInBounds_toArray, List.set_cons_zero, List.set_cons_succ, List.getElem_toArray, List.getElem_cons_succ, List.getElem_cons_zero]
          clear y0 y1 y2 y3
          refine wpAnyH_ready (rs := [5]) (by kernel_rfl) (by simp) ?_
          refine AllReadyH.cons rfl (fun K hK => ?_) AllReadyH.nil
          obtain ⟨i0, hi0, hz0, hz1, hz2⟩ := info_parts infoYi
          refine step_ofY rfl (wp_append_own _ (.tmp 18) (.tmp 21) 23 rfl (r + 1) 3 i0 _ 1 8 Try.underlying23 hi0 hz0 hz1 hz2 rfl (by decide) (.slice d1 l1 k1) l1 (vI y.draws) rfl D.out.dr ⟨b12, 0, none⟩ 1 1 [.int .i64 c0] rfl rfl (cell_newI NB.out) (by simp [Value.oneCell']) (by unfold maxLen; omega) (by omega) D.out.Bu ?_)
          intro vv v13 ho hg _
          obtain ⟨d', k', rfl⟩ := row_slice ho
          rw [vI_app] at ho
          have AP : Hid _ := D.out.app1 hg ho
          clear hg ho D NB i0 hi0 hz0 hz1 hz2
          refine hK.out _ _ trivial (fun hH2 => ?_)
          clear hK K hH
          have hH := hH2
          clear hH2
          simp only [Act.put, List.setIfInBounds_toArray, List.set_cons_zero, List.set_cons_succ, List.getElem_toArray, List.getElem_cons_succ, List.getElem_cons_zero]
          refine wpAnyH_take (i := 6) (v := ?_) rfl (by kernel_rfl) (by kernel_rfl) (by kernel_rfl) (fun _ _ _ h => h) (Or.inl ⟨by rfl, ?_⟩) hH ?_
          rotate_left
          · (intro v hS; go_simp; try with_reducible rfl)
          simp only [Act.put, List.setIfInBounds_toArray, List.set_cons_zero, List.set_cons_succ, List.getElem_toArray, List.getElem_cons_succ, List.getElem_cons_zero]
          refine wpAnyH_ready (rs := [7]) (by kernel_rfl) (by simp) ?_
          refine AllReadyH.cons rfl (fun K hK => ?_) AllReadyH.nil
          have yy := (blkWorld AP.out.1).1
          obtain ⟨y0, y1, y2, y3⟩ := yy
          have ff := (blkWorld AP.out.1).2 1
          go_simp
          have D : Hid _ := AP.out.2
          clear y0 y1 y2 y3 ff AP
          generalize (v13.setCell ⟨q, 1, none⟩ (.slice d' (l1 + 1) k')) = v14 at *
          refine hK.out _ _ trivial (fun hH2 => ?_)
          clear hK K hH
          have hH := hH2
          clear hH2
          simp only [Act.put, List.setIfInBounds_toArray, List.set_cons_zero, List.set_cons_succ, List.getElem_toArray, List.getElem_cons_succ, List.getElem_cons_zero]
          refine wpAnyH_done (by kernel_rfl) ?_ _
          go_wp2
          go_roundw
          case rel => exact ⟨l1 + 1, { y with draws := y.draws ++ [c0] }, d', l1 + 1, k', by omega, by go_num, ⟨D.out, HY.out.1, HY.out.2⟩, rfl⟩
          case measure => simp [intOf]; omega
    · have D := HL
      clear HL
      have hl5 : l1 ≤ 5 := by omega
      have HL5 : Hid (l1 ≤ 5) := hl5
      clear hl5
      go_wp2_with fail
      refine Calls.mono (HB.out wr D.out.1.cur 4 (by omega) (by omega)) ?_
      rintro e w5 ⟨p, rfl, hp0, hp1, hk⟩
      have D2 : Hid (DW w0 w1 w5 (r + 1) g a n cap q y d1 l1 k1 none 0 0 ∧ y.store = [] ∧ y.ticks = tk) := ⟨D.out.1.drawn hk, D.out.2⟩
      clear hk D
      go_wp2_with fail
      go_loopw [6] (fun i wq => ∃ (j : Nat) (ys : List REntry) (d2 : Option Addr) (l2 k2 : Nat), (j : Int) ≤ p ∧ i = .int .i64 j ∧ Hid (DW w0 w1 wq (r + 1) g a n cap q { y with store := ys } d1 l1 k1 d2 l2 k2 ∧ ys.length ≤ j)) (fun i _ => p.toNat - (intOf i).toNat)
      case atStart => exact ⟨0, [], none, 0, 0, by omega, rfl, by have h9 := D2.out.1; rw [show y = { y with store := [] } by rw [← D2.out.2.1]] at h9; exact h9, Nat.le_refl _⟩
      case round =>
        obtain ⟨j, ys, d2, l2, k2, hj, rfl, HL⟩ := hrel
        by_cases hlt : (j : Int) < p
        · go_wp2_with fail
          refine Calls.mono (HB.out wr HL.out.1.cur 5 (by omega) (by omega)) ?_
          rintro e w6 ⟨A, rfl, hA0, hA1, hk⟩
          have E1 : Hid (DW w0 w1 w6 (r + 1) g a n cap q { y with store := ys } d1 l1 k1 d2 l2 k2 ∧ ys.length ≤ j) := ⟨HL.out.1.drawn hk, HL.out.2⟩
          clear hk HL
          simp only []
          go_wp2_with fail
          refine Calls.mono (HB.out w6 E1.out.1.cur 100 (by omega) (by omega)) ?_
          rintro e w7 ⟨C, rfl, hC0, hC1, hk⟩
          have E2 : Hid (DW w0 w1 w7 (r + 1) g a n cap q { y with store := ys } d1 l1 k1 d2 l2 k2 ∧ ys.length ≤ j) := ⟨E1.out.1.drawn hk, E1.out.2⟩
          clear hk E1
          simp only []
          have M7 : Hid _ := E2.out.1.mine (by have := HL5.out; omega)
          have hl2 : l2 ≤ 1000 := by have := E2.out.1.len2; have := E2.out.2; simp only at *; omega
          go_wp2_with fail
          refine Calls.mono (lputT { y with store := ys } (r + 1) q A (C - 50) d1 l1 k1 d2 l2 k2 none 0 0 [] (r + 1) w7 M7.out E2.out.1.Bu E2.out.1.Bq hl2) ?_
          rintro e w8 ⟨rfl, ⟨d2', l2', k2', M8⟩, hb8, hev⟩
          have E3 : Hid (DW w0 w1 w8 (r + 1) g a n cap q { y with store := putV ys A (C - 50) } d1 l1 k1 d2' l2' k2' ∧ (putV ys A (C - 50)).length ≤ j + 1) := ⟨E2.out.1.put M8 hb8 hev, Nat.le_trans (putV_len _ _ _) (Nat.succ_le_succ E2.out.2)⟩
          clear M8 hb8 hev E2 M7
          simp only []
          go_wp2
          go_roundw
          case rel => exact ⟨j + 1, putV ys A (C - 50), d2', l2', k2', by omega, by go_num, E3⟩
          case measure => simp [intOf]; omega
        · have E := HL
          clear HL
          have hb := blkWorld E.out.1.box
          obtain ⟨⟨y0, y1, y2, y3⟩, -⟩ := hb
          have hrr : wr.heap[r]? = some (Obj.cells #[.int .i64 0, .slice none 0 0, .slice none 0 0, .slice none 0 0] 27 (0, 0)) := (E.out.1.gr.2.2.2.2 r (by omega) (by omega)).trans H0.out.2.2.1
          obtain ⟨⟨z0, z1, z2, z3⟩, hfz⟩ := blkWorld hrr
          have fz0 := hfz 0
          have fz1 := hfz 1
          have fz2 := hfz 2
          have fz3 := hfz 3
          obtain ⟨mf, kf⟩ := fillWorld (.int .i64 y.ticks) (.slice d1 l1 k1) (.slice d2 l2 k2) (.slice none 0 0) hrr
          have nqr : q ≠ r := by have := E.out.1.Bq; omega
          have DD : DR w0 w (((((wr.setCell ⟨r, 0, none⟩ (.int .i64 y.ticks)).setCell ⟨r, 1, none⟩ (.slice d1 l1 k1)).setCell ⟨r, 2, none⟩ (.slice d2 l2 k2)).setCell ⟨r, 3, none⟩ (.slice none 0 0))) B g a n cap { y with store := ys } d1 l1 k1 d2 l2 k2 := by
            have h9 := E.out.1.toDR
            have gB' : g < r := by omega
            refine ⟨h9.cur.kept kf (by simp; omega) (fun k e => by have := Option.some.inj e; have := h9.cur.1; omega), ?_, by omega, Nat.le_trans (by omega) (Nat.le_trans h9.Bu kf.size), h9.tr, Go.Joins.ownsRow_le (row_keep h9.dr kf (fun b e => by obtain rfl := Option.some.inj e; exact ⟨_, _, hrr, by decide⟩)) (by omega), Go.Joins.ownsRow_le (row_keep h9.st kf (fun b e => by obtain rfl := Option.some.inj e; exact ⟨_, _, hrr, by decide⟩)) (by omega)⟩
            have hb1 : Bg B g w w1 := (Bg.refl _ _ _).grown H0.out.2.1 (by rw [HR.out]; omega) (fun b e => by cases e)
            have hb2 : Bg B g w1 wr := ⟨h9.gr.1, h9.gr.2.1, h9.gr.2.2.1, h9.gr.2.2.2.1, fun i hi hn => h9.gr.2.2.2.2 i (by omega) hn⟩
            have hb3 : Bg B g w wr := ⟨hb2.1.trans hb1.1, hb2.2.1.trans hb1.2.1, hb2.2.2.1.trans hb1.2.2.1, Nat.le_trans hb1.2.2.2.1 hb2.2.2.2.1, fun i hi hn => (hb2.2.2.2.2 i hi hn).trans (hb1.2.2.2.2 i hi hn)⟩
            exact hb3.grown kf (by have := h9.Bu; omega) (fun b e => by obtain rfl := Option.some.inj e; right; omega)
          have FQ : Hid _ := And.intro mf DD
          have W9 : Hid (Wb 5 3 { y with store := ys }) := ⟨by have := E.out.1.len1; have := HL5.out; simp only at *; omega, by have := E.out.2; simp only; omega, by have := D2.out.2.2; simp only; omega⟩
          clear E D2 mf kf DD hfz hrr HL5 H0 HR
          go_wp2
          (try simp only [Exit.inBlock, Exit.then])
          refine bodyPost_ret (results_cell_row (P := Try.prog) Try.results22 _ _ _ _ _ _ _ rfl FQ.out.1 Try.underlying27 rfl (by kernel_rfl)) rfl ?_
          exact ⟨{ y with store := ys }, d1, l1, k1, d2, l2, k2, rfl, FQ.out.2, W9.out⟩
end Go.Proofs.Ytccnninmkfhejaa.By
