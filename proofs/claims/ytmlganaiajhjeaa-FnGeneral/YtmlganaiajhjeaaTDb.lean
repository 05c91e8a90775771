/-
  Any tree that is drawn. No statement is proved here.
-/
import Derived.Test.YtmlganaiajhjeaaTDa
namespace Go.Proofs.Ytmlganaiajhjeaa.By
open Go.RowKit
set_option linter.unusedVariables false
set_option linter.unusedSimpArgs false









set_option maxRecDepth 8000 in
set_option maxHeartbeats 8000000 in
theorem l3anyT (w0 : World) (g : Nat) (a : Option Addr) (n cap : Nat) (zs : List Int) (hr : Reads w0 a n zs) (hz : Byt zs) (hn : n ≤ 9223372036854775807) (w : World) (hc : Cur w0 w g a n cap) :
    Calls Try.prog 38 #[.pointer (some ⟨g, 0, none⟩)] w fun e u => DrA w0 w g a n cap e u := by
  have g0 := World.grownBy_alloc w (.cells #[.int .i64 0, .int .i64 0, .slice none 0 0] 25) none
  have L0 : Hid (Kept w0 w (w.alloc (.cells #[.int .i64 0, .int .i64 0, .slice none 0 0] 25)) g a n cap ∧ (w.alloc (.cells #[.int .i64 0, .int .i64 0, .slice none 0 0] 25)).heap[w.heap.size]? = some (Obj.cells #[.int .i64 0, .int .i64 0, .slice none 0 0] 25)) := ⟨⟨hc.none g0, wide_noneV g0 _⟩, heap_alloc_new w _⟩
  have hgl : g < w.heap.size := by obtain ⟨_, _, i, x, hb, _⟩ := hc; exact lt_of_block hb
  have P0 : Hid (w.heap.size ≤ w.heap.size ∧ g < w.heap.size ∧ w0.heap.size ≤ w.heap.size) := ⟨Nat.le_refl _, hgl, hc.2.1.size⟩
  clear g0 hgl hc
  go_enter Try.func38, Try.ntmps38
  go_wp2_with fail
  generalize w.alloc (.cells #[.int .i64 0, .int .i64 0, .slice none 0 0] 25) = u0 at *
  generalize hq2 : w.heap.size = q2 at *
  refine Calls.mono (belowT w0 u0 g a n cap zs hr hz hn L0.out.1.1 4 (by omega) (by omega)) ?_
  rintro e u1 ⟨x, he, h0x, h1x, hk⟩
  subst he
  have L1 : Hid (Kept w0 w u1 g a n cap ∧ u1.heap[q2]? = some (Obj.cells #[.int .i64 0, .int .i64 0, .slice none 0 0] 25)) := ⟨L0.out.1.trans hk, (hk.2.block _ (lt_of_block L0.out.2) (by have := P0.out; simp; omega)).trans L0.out.2⟩
  clear L0 hk
  obtain ⟨xn, rfl⟩ : ∃ xn : Nat, x = (xn : Int) := ⟨x.toNat, by omega⟩
  have CT := l3tyT w0 g a n cap zs hr hz hn 4 3 (by omega) (by omega) (by omega) (by omega) (1 + xn) u1 (by omega) L1.out.1.1
  have e1 : ((1 + xn : Nat) : Int) = 1 + (xn : Int) := by omega
  rw [e1] at CT
  have CH : Hid _ := CT
  clear CT e1
  simp only []
  go_wp2_with fail
  refine Calls.mono CH.out ?_
  rintro e u2 ⟨k, m, f, a1, l1, c1, bs, he, hk, hnew, hcap, hsz⟩
  subst he
  have hpow : 2 ^ (1 + xn + 1) ≤ 2 ^ 5 := Nat.pow_le_pow_right (by omega) (by omega)
  have hf31 : f.size ≤ 31 := by omega
  have lt2 := lt_of_block L1.out.2
  have L2 : Hid (Kept w0 w u2 g a n cap ∧ u2.heap[q2]? = some (Obj.cells #[.int .i64 0, .int .i64 0, .slice none 0 0] 25) ∧ SlO u2 25 a1 l1 c1 f bs ∧ bs.Nodup ∧ ∀ y ∈ bs, q2 < y ∧ y < u2.heap.size) := ⟨L1.out.1.trans hk, (hk.2.block _ lt2 (by have := P0.out; simp; omega)).trans L1.out.2, hnew.1, hnew.2.1, fun y hy => ⟨by have := hnew.2.2 y hy; omega, hnew.1.lt y hy⟩⟩
  have ga := World.grownBy_alloc u2 (.cells #[.int .i64 k, .int .i64 m, .slice a1 l1 c1] 25) none
  have AL : Hid (TrS w0 w g a n cap q2 u2.heap.size k m a1 l1 c1 f bs (u2.alloc (.cells #[.int .i64 k, .int .i64 m, .slice a1 l1 c1] 25))) := ⟨L2.out.1.none ga, (ga.block _ (lt_of_block L2.out.2.1) (by simp)).trans L2.out.2.1, heap_alloc_new u2 _, L2.out.2.2.1.old ga, L2.out.2.2.2.1, fun y hy => ⟨(L2.out.2.2.2.2 y hy).1, by have := (L2.out.2.2.2.2 y hy).2; omega⟩⟩
  have PQ : Hid (w.heap.size ≤ q2 ∧ g < q2 ∧ w0.heap.size ≤ w.heap.size ∧ q2 < u2.heap.size) := ⟨by omega, P0.out.2.1, by have := P0.out.2.2; omega, lt_of_block L2.out.2.1⟩
  clear ga L2 L1 CH hk hnew hsz hpow lt2 P0 hq2 h0x h1x
  simp only []
  go_upto_region 2 with fail
  generalize u2.alloc (.cells #[.int .i64 k, .int .i64 m, .slice a1 l1 c1] 25) = u3 at *
  generalize u2.heap.size = q3 at *
  go_wp2_with fail
  refine Calls.mono (onceT w0 u3 g a n cap zs hr hz hn AL.out.kept.1 12 (by omega) (by omega)) ?_
  rintro e u4 ⟨bb, he, hk⟩
  subst he
  have AN := AL.out.cur hk (by have := PQ.out; omega) (by have := PQ.out; omega)
  clear AL hk
  have AL : Hid (TrS w0 w g a n cap q2 q3 _ _ _ _ _ _ _ u4) := AN
  clear AN
  simp only []
  go_upto_if 14 with fail
  go_cut [] (fun wx => ∃ (k m : Int) (f : F) (a1 : Option Addr) (l1 c1 : Nat) (bs : List Nat), f.size ≤ 45 ∧ Hid (TrS w0 w g a n cap q2 q3 k m a1 l1 c1 f bs wx) ∧ (c1 = 0 → a1 = none))
  case first =>
    cases bb with
    | false =>
      go_wp2
      go_meet
      case rel => exact ⟨_, _, _, _, _, _, _, by omega, AL, hcap⟩
    | true =>
      go_wp2_with fail
      refine Calls.mono (belowT w0 u4 g a n cap zs hr hz hn AL.out.kept.1 12 (by omega) (by omega)) ?_
      rintro e u5 ⟨y, he, h0y, h1y, hk⟩
      subst he
      have AN := AL.out.cur hk (by have := PQ.out; omega) (by have := PQ.out; omega)
      clear AL hk
      have AL : Hid (TrS w0 w g a n cap q2 q3 _ _ _ _ _ _ _ u5) := AN
      clear AN
      simp only []
      obtain ⟨yn, rfl⟩ : ∃ yn : Nat, y = (yn : Int) := ⟨y.toNat, by omega⟩
      go_wp2
      go_loopw [5] (fun i wr => ∃ (j : Nat) (k m : Int) (f : F) (a1 : Option Addr) (l1 c1 : Nat) (bs : List Nat), j ≤ yn ∧ i = .int .i64 j ∧ f.size ≤ 31 + j ∧ Hid (TrS w0 w g a n cap q2 q3 k m a1 l1 c1 f bs wr) ∧ (c1 = 0 → a1 = none)) (fun i _ => yn - (intOf i).toNat)
      case atStart => exact ⟨0, _, _, _, _, _, _, _, Nat.zero_le _, rfl, by omega, AL, hcap⟩
      case round =>
        clear AL hcap hf31
        obtain ⟨j, k, m, f, a1, l1, c1, bs, hj, rfl, hfs, AL, hcap⟩ := hrel
        by_cases hlt : j < yn
        · have hlt' : (j : Int) < yn := by omega
          obtain ⟨⟨z0, z1, z2⟩, f0, f1, f2⟩ := three AL.out.box
          have hq3 := lt_of_block AL.out.box
          have AN : Hid _ := AL.out.wrap1 5 0 (by have := PQ.out; omega) (by have := PQ.out; omega) (by have := PQ.out; omega) (by have := PQ.out; omega)
          clear AL
          go_wp2
          go_roundw
          case rel => exact ⟨j + 1, _, _, _, _, _, _, _, by omega, by go_num, by simp only [F.size]; omega, AN, fun h => by cases h⟩
          case measure => simp [intOf]; omega
        · obtain rfl : j = yn := by omega
          go_wp2
          go_meet
          case rel => exact ⟨_, _, _, _, _, _, _, by omega, AL, hcap⟩
  case rest =>
    clear AL hcap hf31
    obtain ⟨k, m, f, a1, l1, c1, bs, hf45, AL, hcap⟩ := hcut
    go_wp2_with fail
    refine Calls.mono (onceT w0 wc g a n cap zs hr hz hn AL.out.kept.1 20 (by omega) (by omega)) ?_
    rintro e x4 ⟨b2, he, hk⟩
    subst he
    have AN := AL.out.cur hk (by have := PQ.out; omega) (by have := PQ.out; omega)
    clear AL hk
    have AL : Hid (TrS w0 w g a n cap q2 q3 _ _ _ _ _ _ _ x4) := AN
    clear AN
    simp only []
    go_upto_if 26 with fail
    go_cut [] (fun wx => ∃ (k m : Int) (f : F) (a1 : Option Addr) (l1 c1 : Nat) (bs : List Nat), f.size ≤ 4000 ∧ Hid (TrS w0 w g a n cap q2 q3 k m a1 l1 c1 f bs wx) ∧ (c1 = 0 → a1 = none))
    case first =>
      cases b2 with
      | false =>
        go_wp2
        go_meet
        case rel => exact ⟨_, _, _, _, _, _, _, by omega, AL, hcap⟩
      | true =>
        go_wp2_with fail
        refine Calls.mono (belowT w0 x4 g a n cap zs hr hz hn AL.out.kept.1 7 (by omega) (by omega)) ?_
        rintro e x5 ⟨y, he, h0y, h1y, hk⟩
        subst he
        have AN := AL.out.cur hk (by have := PQ.out; omega) (by have := PQ.out; omega)
        clear AL hk
        have AL : Hid (TrS w0 w g a n cap q2 q3 _ _ _ _ _ _ _ x5) := AN
        clear AN
        simp only []
        obtain ⟨yn, rfl⟩ : ∃ yn : Nat, y = (yn : Int) := ⟨y.toNat, by omega⟩
        go_wp2
        go_loopw [7] (fun i wr => ∃ (j : Nat) (k m : Int) (f : F) (a1 : Option Addr) (l1 c1 : Nat) (bs : List Nat), j ≤ yn ∧ i = .int .i64 j ∧ f.size + 2 ≤ 47 * 2 ^ j ∧ Hid (TrS w0 w g a n cap q2 q3 k m a1 l1 c1 f bs wr) ∧ (c1 = 0 → a1 = none)) (fun i _ => yn - (intOf i).toNat)
        case atStart => exact ⟨0, _, _, _, _, _, _, _, Nat.zero_le _, rfl, by simp; omega, AL, hcap⟩
        case round =>
          clear AL hcap hf45
          obtain ⟨j, k, m, f, a1, l1, c1, bs, hj, rfl, hfs, AL, hcap⟩ := hrel
          have hpw : 2 ^ j ≤ 2 ^ 6 := Nat.pow_le_pow_right (by omega) (by omega)
          by_cases hlt : j < yn
          · have hlt' : (j : Int) < yn := by omega
            have hfb : f.size ≤ 100000 := by omega
            go_upto_region 13 with fail
            have AD : Hid (TrS w0 w g a n cap q2 q3 k m a1 l1 c1 f bs wr.drew) := AL.out.quiet (grown_drew (World.grownBy.refl _ Option.none))
            clear AL hcap
            have AL := AD
            clear AD
            refine wp_region_held_drew (S := (fun _ => True)) (by kernel_rfl) trivial (fun hH => ?_)
            generalize wr.drew = x0 at *
            simp only [List.size_toArray, List.length_cons, List.length_nil, Nat.reduceAdd, Array.replicate, List.replicate]
            refine wpAnyH_ready (rs := [0, 2]) (by kernel_rfl) (by simp) ?_
            refine AllReadyH.cons rfl (fun K hK => ?_) (AllReadyH.cons rfl (fun K hK => ?_) AllReadyH.nil)
            · have yy := three AL.out.box
              obtain ⟨⟨y0, y1, y2⟩, -⟩ := yy
              go_simp
              refine hK.out _ _ trivial (fun hH2 => ?_)
              clear y0 y1 y2
              clear hK K hH
              have hH := hH2
              clear hH2
              simp only [Act.put, List.setIfInBounds_toArray, List.set_cons_zero, List.set_cons_succ, List.getElem_toArray, List.getElem_cons_succ, List.getElem_cons_zero]
              refine wpAnyH_ready (rs := [1, 2]) (by kernel_rfl) (by simp) ?_
              refine AllReadyH.cons rfl (fun K hK => ?_) (AllReadyH.cons rfl (fun K hK => ?_) AllReadyH.nil)
              · go_simp
                refine Calls.mono (l3copyT (f.size + 1) f k m a1 l1 c1 x0 (Nat.lt_succ_self _) (by omega) AL.out.own.reads) ?_
                rintro e x1 ⟨b1, e1, bs1, he, hg, hn1, -⟩
                subst he
                have AN : Hid (TrS w0 w g a n cap q2 q3 k m a1 l1 c1 f bs x1 ∧ SlO x1 25 b1 l1 e1 f bs1 ∧ bs1.Nodup ∧ (∀ y ∈ bs1, q2 < y ∧ y ≠ q3 ∧ y < x1.heap.size)) := ⟨AL.out.quiet hg, hn1.1, hn1.2.1, fun y hy => ⟨by have := hn1.2.2 y hy; have := lt_of_block AL.out.res; omega, by have := hn1.2.2 y hy; have := lt_of_block AL.out.box; omega, hn1.1.lt y hy⟩⟩
                refine hK.out _ _ trivial (fun hH2 => ?_)
                clear AL hg hn1
                clear hK K hH
                have hH := hH2
                clear hH2
                simp only [Act.put, List.setIfInBounds_toArray, List.set_cons_zero, List.set_cons_succ, List.getElem_toArray, List.getElem_cons_succ, List.getElem_cons_zero]
                have AL : Hid (TrS w0 w g a n cap q2 q3 k m a1 l1 c1 f bs x1) := AN.out.1
                refine wpAnyH_ready (rs := [2]) (by kernel_rfl) (by simp) ?_
                refine AllReadyH.cons rfl (fun K hK => ?_) AllReadyH.nil
                have yy := three AL.out.box
                obtain ⟨⟨y0, y1, y2⟩, -⟩ := yy
                go_simp
                refine hK.out _ _ trivial (fun hH2 => ?_)
                clear y0 y1 y2
                clear hK K hH
                have hH := hH2
                clear hH2
                simp only [Act.put, List.setIfInBounds_toArray, List.set_cons_zero, List.set_cons_succ, List.getElem_toArray, List.getElem_cons_succ, List.getElem_cons_zero]
                refine wpAnyH_ready (rs := [3]) (by kernel_rfl) (by simp) ?_
                refine AllReadyH.cons rfl (fun K hK => ?_) AllReadyH.nil
                go_simp
                refine Calls.mono (l3copyT (f.size + 1) f k m a1 l1 c1 x1 (Nat.lt_succ_self _) (by omega) AL.out.own.reads) ?_
                rintro e x2 ⟨b2, e2, bs2, he, hg, hn2, -⟩
                subst he
                have AM : Hid (TrS w0 w g a n cap q2 q3 k m a1 l1 c1 f bs x2 ∧ SlO x2 25 b1 l1 e1 f bs1 ∧ bs1.Nodup ∧ (∀ y ∈ bs1, q2 < y ∧ y ≠ q3) ∧ SlO x2 25 b2 l1 e2 f bs2 ∧ bs2.Nodup ∧ (∀ y ∈ bs2, q2 < y ∧ y ≠ q3) ∧ (∀ y ∈ bs1, y ∉ bs2)) := ⟨AL.out.quiet hg, AN.out.2.1.old hg, AN.out.2.2.1, fun y hy => ⟨(AN.out.2.2.2 y hy).1, (AN.out.2.2.2 y hy).2.1⟩, hn2.1, hn2.2.1, fun y hy => ⟨by have := hn2.2.2 y hy; have := lt_of_block AL.out.res; omega, by have := hn2.2.2 y hy; have := lt_of_block AL.out.box; omega⟩, fun y hy hy2 => by have := hn2.2.2 y hy2; have := (AN.out.2.2.2 y hy).2.2; omega⟩
                refine hK.out _ _ trivial (fun hH2 => ?_)
                clear AL AN hg hn2
                clear hK K hH
                have hH := hH2
                clear hH2
                simp only [Act.put, List.setIfInBounds_toArray, List.set_cons_zero, List.set_cons_succ, List.getElem_toArray, List.getElem_cons_succ, List.getElem_cons_zero]
                refine wpAnyH_ready (rs := [4]) (by kernel_rfl) (by simp) ?_
                refine AllReadyH.cons rfl (fun K hK => ?_) AllReadyH.nil
                go_simp
                refine hK.out _ _ trivial (fun hH2 => ?_)
                clear hK K hH
                have hH := hH2
                clear hH2
                simp only [Act.put, List.setIfInBounds_toArray, List.set_cons_zero, List.set_cons_succ, List.getElem_toArray, List.getElem_cons_succ, List.getElem_cons_zero]
                refine wpAnyH_take (i := 5) (v := ?_) rfl (by kernel_rfl) (by kernel_rfl) (by kernel_rfl) (fun _ _ _ h => h) (Or.inl ⟨by rfl, ?_⟩) hH ?_
                rotate_left
                · (intro v hS; go_simp; try with_reducible rfl)
                simp only [Act.put, List.setIfInBounds_toArray, List.set_cons_zero, List.set_cons_succ, List.getElem_toArray, List.getElem_cons_succ, List.getElem_cons_zero]
                have AF : Hid _ := AM.out.1.wrap2b (k1' := k) (m1 := m) (k2' := k) (m2 := m) 3 0 AM.out.2.1 AM.out.2.2.2.2.1 AM.out.2.2.1 AM.out.2.2.2.2.2.1 AM.out.2.2.2.1 AM.out.2.2.2.2.2.2.1 AM.out.2.2.2.2.2.2.2 (by have := PQ.out; omega) (by have := PQ.out; omega) (by have := PQ.out; omega) (by have := PQ.out; omega)
                have hA := AM.out.1.quiet (World.grownBy_alloc x2 (.cells #[.int .i64 k, .int .i64 m, .slice b1 l1 e1, .int .i64 k, .int .i64 m, .slice b2 l1 e2] 25) none)
                have yy := three hA.box
                obtain ⟨⟨y0, y1, y2⟩, f0, f1, f2⟩ := yy
                clear AM hA
                refine wpAnyH_ready (rs := [6]) (by kernel_rfl) (by simp) ?_
                refine AllReadyH.cons rfl (fun K hK => ?_) AllReadyH.nil
                go_simp
                refine hK.out _ _ trivial (fun hH2 => ?_)
                clear hK K hH
                have hH := hH2
                clear hH2
                simp only [Act.put, List.setIfInBounds_toArray, List.set_cons_zero, List.set_cons_succ, List.getElem_toArray, List.getElem_cons_succ, List.getElem_cons_zero]
                refine wpAnyH_done (by kernel_rfl) ?_ _
                clear hH y0 y1 y2 f0 f1 f2
                go_wp2
                go_roundw
                case rel => exact ⟨j + 1, _, _, _, _, _, _, _, by omega, by go_num, by simp only [F.size, Nat.pow_succ] at *; omega, AF, fun h => by cases h⟩
                case measure => simp [intOf]; omega
              · have yy := three AL.out.box
                obtain ⟨⟨y0, y1, y2⟩, -⟩ := yy
                go_simp
                refine hK.out _ _ trivial (fun hH2 => ?_)
                clear y0 y1 y2
                clear hK K hH
                have hH := hH2
                clear hH2
                simp only [Act.put, List.setIfInBounds_toArray, List.set_cons_zero, List.set_cons_succ, List.getElem_toArray, List.getElem_cons_succ, List.getElem_cons_zero]
                refine wpAnyH_ready (rs := [1]) (by kernel_rfl) (by simp) ?_
                refine AllReadyH.cons rfl (fun K hK => ?_) AllReadyH.nil
                go_simp
                refine Calls.mono (l3copyT (f.size + 1) f k m a1 l1 c1 x0 (Nat.lt_succ_self _) (by omega) AL.out.own.reads) ?_
                rintro e x1 ⟨b1, e1, bs1, he, hg, hn1, -⟩
                subst he
                have AN : Hid (TrS w0 w g a n cap q2 q3 k m a1 l1 c1 f bs x1 ∧ SlO x1 25 b1 l1 e1 f bs1 ∧ bs1.Nodup ∧ (∀ y ∈ bs1, q2 < y ∧ y ≠ q3 ∧ y < x1.heap.size)) := ⟨AL.out.quiet hg, hn1.1, hn1.2.1, fun y hy => ⟨by have := hn1.2.2 y hy; have := lt_of_block AL.out.res; omega, by have := hn1.2.2 y hy; have := lt_of_block AL.out.box; omega, hn1.1.lt y hy⟩⟩
                refine hK.out _ _ trivial (fun hH2 => ?_)
                clear AL hg hn1
                clear hK K hH
                have hH := hH2
                clear hH2
                simp only [Act.put, List.setIfInBounds_toArray, List.set_cons_zero, List.set_cons_succ, List.getElem_toArray, List.getElem_cons_succ, List.getElem_cons_zero]
                have AL : Hid (TrS w0 w g a n cap q2 q3 k m a1 l1 c1 f bs x1) := AN.out.1
                refine wpAnyH_ready (rs := [3]) (by kernel_rfl) (by simp) ?_
                refine AllReadyH.cons rfl (fun K hK => ?_) AllReadyH.nil
                go_simp
                refine Calls.mono (l3copyT (f.size + 1) f k m a1 l1 c1 x1 (Nat.lt_succ_self _) (by omega) AL.out.own.reads) ?_
                rintro e x2 ⟨b2, e2, bs2, he, hg, hn2, -⟩
                subst he
                have AM : Hid (TrS w0 w g a n cap q2 q3 k m a1 l1 c1 f bs x2 ∧ SlO x2 25 b1 l1 e1 f bs1 ∧ bs1.Nodup ∧ (∀ y ∈ bs1, q2 < y ∧ y ≠ q3) ∧ SlO x2 25 b2 l1 e2 f bs2 ∧ bs2.Nodup ∧ (∀ y ∈ bs2, q2 < y ∧ y ≠ q3) ∧ (∀ y ∈ bs1, y ∉ bs2)) := ⟨AL.out.quiet hg, AN.out.2.1.old hg, AN.out.2.2.1, fun y hy => ⟨(AN.out.2.2.2 y hy).1, (AN.out.2.2.2 y hy).2.1⟩, hn2.1, hn2.2.1, fun y hy => ⟨by have := hn2.2.2 y hy; have := lt_of_block AL.out.res; omega, by have := hn2.2.2 y hy; have := lt_of_block AL.out.box; omega⟩, fun y hy hy2 => by have := hn2.2.2 y hy2; have := (AN.out.2.2.2 y hy).2.2; omega⟩
                refine hK.out _ _ trivial (fun hH2 => ?_)
                clear AL AN hg hn2
                clear hK K hH
                have hH := hH2
                clear hH2
                simp only [Act.put, List.setIfInBounds_toArray, List.set_cons_zero, List.set_cons_succ, List.getElem_toArray, List.getElem_cons_succ, List.getElem_cons_zero]
                refine wpAnyH_ready (rs := [4]) (by kernel_rfl) (by simp) ?_
                refine AllReadyH.cons rfl (fun K hK => ?_) AllReadyH.nil
                go_simp
                refine hK.out _ _ trivial (fun hH2 => ?_)
                clear hK K hH
                have hH := hH2
                clear hH2
                simp only [Act.put, List.setIfInBounds_toArray, List.set_cons_zero, List.set_cons_succ, List.getElem_toArray, List.getElem_cons_succ, List.getElem_cons_zero]
                refine wpAnyH_take (i := 5) (v := ?_) rfl (by kernel_rfl) (by kernel_rfl) (by kernel_rfl) (fun _ _ _ h => h) (Or.inl ⟨by rfl, ?_⟩) hH ?_
                rotate_left
                · (intro v hS; go_simp; try with_reducible rfl)
                simp only [Act.put, List.setIfInBounds_toArray, List.set_cons_zero, List.set_cons_succ, List.getElem_toArray, List.getElem_cons_succ, List.getElem_cons_zero]
                have AF : Hid _ := AM.out.1.wrap2b (k1' := k) (m1 := m) (k2' := k) (m2 := m) 3 0 AM.out.2.1 AM.out.2.2.2.2.1 AM.out.2.2.1 AM.out.2.2.2.2.2.1 AM.out.2.2.2.1 AM.out.2.2.2.2.2.2.1 AM.out.2.2.2.2.2.2.2 (by have := PQ.out; omega) (by have := PQ.out; omega) (by have := PQ.out; omega) (by have := PQ.out; omega)
                have hA := AM.out.1.quiet (World.grownBy_alloc x2 (.cells #[.int .i64 k, .int .i64 m, .slice b1 l1 e1, .int .i64 k, .int .i64 m, .slice b2 l1 e2] 25) none)
                have yy := three hA.box
                obtain ⟨⟨y0, y1, y2⟩, f0, f1, f2⟩ := yy
                clear AM hA
                refine wpAnyH_ready (rs := [6]) (by kernel_rfl) (by simp) ?_
                refine AllReadyH.cons rfl (fun K hK => ?_) AllReadyH.nil
                go_simp
                refine hK.out _ _ trivial (fun hH2 => ?_)
                clear hK K hH
                have hH := hH2
                clear hH2
                simp only [Act.put, List.setIfInBounds_toArray, List.set_cons_zero, List.set_cons_succ, List.getElem_toArray, List.getElem_cons_succ, List.getElem_cons_zero]
                refine wpAnyH_done (by kernel_rfl) ?_ _
                clear hH y0 y1 y2 f0 f1 f2
                go_wp2
                go_roundw
                case rel => exact ⟨j + 1, _, _, _, _, _, _, _, by omega, by go_num, by simp only [F.size, Nat.pow_succ] at *; omega, AF, fun h => by cases h⟩
                case measure => simp [intOf]; omega
            · have yy := three AL.out.box
              obtain ⟨⟨y0, y1, y2⟩, -⟩ := yy
              go_simp
              refine hK.out _ _ trivial (fun hH2 => ?_)
              clear y0 y1 y2
              clear hK K hH
              have hH := hH2
              clear hH2
              simp only [Act.put, List.setIfInBounds_toArray, List.set_cons_zero, List.set_cons_succ, List.getElem_toArray, List.getElem_cons_succ, List.getElem_cons_zero]
              refine wpAnyH_ready (rs := [0]) (by kernel_rfl) (by simp) ?_
              refine AllReadyH.cons rfl (fun K hK => ?_) AllReadyH.nil
              have yy := three AL.out.box
              obtain ⟨⟨y0, y1, y2⟩, -⟩ := yy
              go_simp
              refine hK.out _ _ trivial (fun hH2 => ?_)
              clear y0 y1 y2
              clear hK K hH
              have hH := hH2
              clear hH2
              simp only [Act.put, List.setIfInBounds_toArray, List.set_cons_zero, List.set_cons_succ, List.getElem_toArray, List.getElem_cons_succ, List.getElem_cons_zero]
              refine wpAnyH_ready (rs := [1]) (by kernel_rfl) (by simp) ?_
              refine AllReadyH.cons rfl (fun K hK => ?_) AllReadyH.nil
              go_simp
              refine Calls.mono (l3copyT (f.size + 1) f k m a1 l1 c1 x0 (Nat.lt_succ_self _) (by omega) AL.out.own.reads) ?_
              rintro e x1 ⟨b1, e1, bs1, he, hg, hn1, -⟩
              subst he
              have AN : Hid (TrS w0 w g a n cap q2 q3 k m a1 l1 c1 f bs x1 ∧ SlO x1 25 b1 l1 e1 f bs1 ∧ bs1.Nodup ∧ (∀ y ∈ bs1, q2 < y ∧ y ≠ q3 ∧ y < x1.heap.size)) := ⟨AL.out.quiet hg, hn1.1, hn1.2.1, fun y hy => ⟨by have := hn1.2.2 y hy; have := lt_of_block AL.out.res; omega, by have := hn1.2.2 y hy; have := lt_of_block AL.out.box; omega, hn1.1.lt y hy⟩⟩
              refine hK.out _ _ trivial (fun hH2 => ?_)
              clear AL hg hn1
              clear hK K hH
              have hH := hH2
              clear hH2
              simp only [Act.put, List.setIfInBounds_toArray, List.set_cons_zero, List.set_cons_succ, List.getElem_toArray, List.getElem_cons_succ, List.getElem_cons_zero]
              have AL : Hid (TrS w0 w g a n cap q2 q3 k m a1 l1 c1 f bs x1) := AN.out.1
              refine wpAnyH_ready (rs := [3]) (by kernel_rfl) (by simp) ?_
              refine AllReadyH.cons rfl (fun K hK => ?_) AllReadyH.nil
              go_simp
              refine Calls.mono (l3copyT (f.size + 1) f k m a1 l1 c1 x1 (Nat.lt_succ_self _) (by omega) AL.out.own.reads) ?_
              rintro e x2 ⟨b2, e2, bs2, he, hg, hn2, -⟩
              subst he
              have AM : Hid (TrS w0 w g a n cap q2 q3 k m a1 l1 c1 f bs x2 ∧ SlO x2 25 b1 l1 e1 f bs1 ∧ bs1.Nodup ∧ (∀ y ∈ bs1, q2 < y ∧ y ≠ q3) ∧ SlO x2 25 b2 l1 e2 f bs2 ∧ bs2.Nodup ∧ (∀ y ∈ bs2, q2 < y ∧ y ≠ q3) ∧ (∀ y ∈ bs1, y ∉ bs2)) := ⟨AL.out.quiet hg, AN.out.2.1.old hg, AN.out.2.2.1, fun y hy => ⟨(AN.out.2.2.2 y hy).1, (AN.out.2.2.2 y hy).2.1⟩, hn2.1, hn2.2.1, fun y hy => ⟨by have := hn2.2.2 y hy; have := lt_of_block AL.out.res; omega, by have := hn2.2.2 y hy; have := lt_of_block AL.out.box; omega⟩, fun y hy hy2 => by have := hn2.2.2 y hy2; have := (AN.out.2.2.2 y hy).2.2; omega⟩
              refine hK.out _ _ trivial (fun hH2 => ?_)
              clear AL AN hg hn2
              clear hK K hH
              have hH := hH2
              clear hH2
              simp only [Act.put, List.setIfInBounds_toArray, List.set_cons_zero, List.set_cons_succ, List.getElem_toArray, List.getElem_cons_succ, List.getElem_cons_zero]
              refine wpAnyH_ready (rs := [4]) (by kernel_rfl) (by simp) ?_
              refine AllReadyH.cons rfl (fun K hK => ?_) AllReadyH.nil
              go_simp
              refine hK.out _ _ trivial (fun hH2 => ?_)
              clear hK K hH
              have hH := hH2
              clear hH2
              simp only [Act.put, List.setIfInBounds_toArray, List.set_cons_zero, List.set_cons_succ, List.getElem_toArray, List.getElem_cons_succ, List.getElem_cons_zero]
              refine wpAnyH_take (i := 5) (v := ?_) rfl (by kernel_rfl) (by kernel_rfl) (by kernel_rfl) (fun _ _ _ h => h) (Or.inl ⟨by rfl, ?_⟩) hH ?_
              rotate_left
              · (intro v hS; go_simp; try with_reducible rfl)
              simp only [Act.put, List.setIfInBounds_toArray, List.set_cons_zero, List.set_cons_succ, List.getElem_toArray, List.getElem_cons_succ, List.getElem_cons_zero]
              have AF : Hid _ := AM.out.1.wrap2b (k1' := k) (m1 := m) (k2' := k) (m2 := m) 3 0 AM.out.2.1 AM.out.2.2.2.2.1 AM.out.2.2.1 AM.out.2.2.2.2.2.1 AM.out.2.2.2.1 AM.out.2.2.2.2.2.2.1 AM.out.2.2.2.2.2.2.2 (by have := PQ.out; omega) (by have := PQ.out; omega) (by have := PQ.out; omega) (by have := PQ.out; omega)
              have hA := AM.out.1.quiet (World.grownBy_alloc x2 (.cells #[.int .i64 k, .int .i64 m, .slice b1 l1 e1, .int .i64 k, .int .i64 m, .slice b2 l1 e2] 25) none)
              have yy := three hA.box
              obtain ⟨⟨y0, y1, y2⟩, f0, f1, f2⟩ := yy
              clear AM hA
              refine wpAnyH_ready (rs := [6]) (by kernel_rfl) (by simp) ?_
              refine AllReadyH.cons rfl (fun K hK => ?_) AllReadyH.nil
              go_simp
              refine hK.out _ _ trivial (fun hH2 => ?_)
              clear hK K hH
              have hH := hH2
              clear hH2
              simp only [Act.put, List.setIfInBounds_toArray, List.set_cons_zero, List.set_cons_succ, List.getElem_toArray, List.getElem_cons_succ, List.getElem_cons_zero]
              refine wpAnyH_done (by kernel_rfl) ?_ _
              clear hH y0 y1 y2 f0 f1 f2
              go_wp2
              go_roundw
              case rel => exact ⟨j + 1, _, _, _, _, _, _, _, by omega, by go_num, by simp only [F.size, Nat.pow_succ] at *; omega, AF, fun h => by cases h⟩
              case measure => simp [intOf]; omega
          · obtain rfl : j = yn := by omega
            go_wp2
            go_meet
            case rel => exact ⟨_, _, _, _, _, _, _, by omega, AL, hcap⟩
    case rest =>
      clear AL hcap hf45
      obtain ⟨k, m, f, a1, l1, c1, bs, hf4, AL, hcap⟩ := hcut
      go_wp2_with fail
      refine Calls.mono (onceT w0 wc g a n cap zs hr hz hn AL.out.kept.1 15 (by omega) (by omega)) ?_
      rintro e x6 ⟨b3, he, hk⟩
      subst he
      have AN := AL.out.cur hk (by have := PQ.out; omega) (by have := PQ.out; omega)
      clear AL hk
      have AL : Hid (TrS w0 w g a n cap q2 q3 _ _ _ _ _ _ _ x6) := AN
      clear AN
      simp only []
      go_upto_if 41 with fail
      go_cut [] (fun wx => ∃ (k m : Int) (f : F) (a1 : Option Addr) (l1 c1 : Nat) (bs : List Nat), Hid (TrS w0 w g a n cap q2 q3 k m a1 l1 c1 f bs wx))
      case first =>
        cases b3 with
        | false =>
          go_wp2
          go_meet
          case rel => exact ⟨_, _, _, _, _, _, _, AL⟩
        | true =>
          go_wp2_with fail
          refine Calls.mono (belowT w0 x6 g a n cap zs hr hz hn AL.out.kept.1 6 (by omega) (by omega)) ?_
          rintro e x7 ⟨z, he, h0z, h1z, hk⟩
          subst he
          have AN := AL.out.cur hk (by have := PQ.out; omega) (by have := PQ.out; omega)
          clear AL hk
          have AL : Hid (TrS w0 w g a n cap q2 q3 _ _ _ _ _ _ _ x7) := AN
          clear AN
          simp only []
          by_cases hz0' : z = 0
          · subst hz0'
            have CP : Hid _ := pickNew w0 x7 g a n cap zs hr hz hn AL.out.kept.1 [-1, 8, 3, 5] (by decide) (by decide) (by intro x hx; simp only [List.mem_cons, List.not_mem_nil, or_false] at hx; unfold I64; omega)
            go_wp2_with fail
            refine Calls.mono CP.out ?_
            rintro e y1 ⟨x, he, hxI, hk⟩
            subst he
            have AN := AL.out.cur hk (by have := PQ.out; omega) (by have := PQ.out; omega)
            clear AL hk CP
            have AL : Hid (TrS w0 w g a n cap q2 q3 k m a1 l1 c1 f bs y1) := AN
            clear AN
            have AF : Hid _ := AL.out.setK x (by have := PQ.out; omega) (by have := PQ.out; omega) (by have := PQ.out; omega) (by have := PQ.out; omega)
            obtain ⟨⟨z0, z1, z2⟩, f0, f1, f2⟩ := three AL.out.box
            clear AL
            simp only []
            go_wp2
            go_meet
            case rel => exact ⟨_, _, _, _, _, _, _, AF⟩
          by_cases hz1' : z = 1
          · subst hz1'
            have CP : Hid _ := pickNew w0 x7 g a n cap zs hr hz hn AL.out.kept.1 [-1, 1, 20, 100000] (by decide) (by decide) (by intro x hx; simp only [List.mem_cons, List.not_mem_nil, or_false] at hx; unfold I64; omega)
            go_wp2_with fail
            refine Calls.mono CP.out ?_
            rintro e y1 ⟨x, he, hxI, hk⟩
            subst he
            have AN := AL.out.cur hk (by have := PQ.out; omega) (by have := PQ.out; omega)
            clear AL hk CP
            have AL : Hid (TrS w0 w g a n cap q2 q3 k m a1 l1 c1 f bs y1) := AN
            clear AN
            have AF : Hid _ := AL.out.setN x (by have := PQ.out; omega) (by have := PQ.out; omega) (by have := PQ.out; omega) (by have := PQ.out; omega)
            obtain ⟨⟨z0, z1, z2⟩, f0, f1, f2⟩ := three AL.out.box
            clear AL
            simp only []
            go_wp2
            go_meet
            case rel => exact ⟨_, _, _, _, _, _, _, AF⟩
          by_cases hz2' : z = 2
          · subst hz2'
            obtain ⟨i0, hi, hi0, hi1, hi2⟩ := info_parts infoT
            have hll : l1 ≤ 100000 := by have h1 := f.len_le; have h2 := AL.out.own.1; omega
            have AN := AL.out.quiet (World.grownBy_alloc x7 (.cells #[.int .i64 0, .int .i64 0, .slice Option.none 0 0] 25) Option.none)
            have NW : Hid _ := news3 (three (heap_alloc_new x7 (.cells #[.int .i64 0, .int .i64 0, .slice Option.none 0 0] 25))).1.1 (three (heap_alloc_new x7 (.cells #[.int .i64 0, .int .i64 0, .slice Option.none 0 0] 25))).1.2.1 (three (heap_alloc_new x7 (.cells #[.int .i64 0, .int .i64 0, .slice Option.none 0 0] 25))).1.2.2
            obtain ⟨⟨z0, z1, z2⟩, -⟩ := three AL.out.box
            have AM : Hid (TrS w0 w g a n cap q2 q3 k m a1 l1 c1 f bs (x7.alloc (.cells #[.int .i64 0, .int .i64 0, .slice Option.none 0 0] 25))) := AN
            have HC : Hid (c1 = 0 → a1 = Option.none) := hcap
            clear AL AN hcap
            go_wp2_with (at_builtin; go_must (refine wpList_pushT rfl _ _ 23 rfl 25 i0 _ Try.underlying23 hi hi0 hi1 hi2 rfl a1 l1 c1 f bs rfl AM.out.own AM.out.nd HC.out hll ⟨x7.heap.size, 0, Option.none⟩ rfl 0 0 Option.none 0 0 NW.out .nil [] ⟨rfl, by omega, by omega, .inl ⟨rfl, rfl⟩⟩ List.nodup_nil (fun _ _ h => by simp at h) ?_); intro a3 c3 bs3 y3 h1 h2 h3 h4 h5; obtain ⟨⟨v0, v1, v2⟩, f0, f1, f2⟩ := three ((h4.block q3 (lt_of_block AM.out.box) (fun hx => (AM.out.gt q3 hx).2 rfl)).trans AM.out.box))
            have AF : Hid _ := AM.out.tn h4 h1 h2 h3 (by have := PQ.out; omega) (by have := PQ.out; omega) (by have := PQ.out; omega) (by have := PQ.out; omega)
            clear AM h1 h2 h3 h4 h5 v0 v1 v2 f0 f1 f2
            go_meet
            case rel => exact ⟨_, _, _, _, _, _, _, AF⟩
          by_cases hz3' : z = 3
          · subst hz3'
            go_wp2_with fail
            refine Calls.mono (belowT w0 x7 g a n cap zs hr hz hn AL.out.kept.1 2 (by omega) (by omega)) ?_
            rintro e x8 ⟨y, he, h0y, h1y, hk⟩
            subst he
            have AN := AL.out.cur hk (by have := PQ.out; omega) (by have := PQ.out; omega)
            clear AL hk
            have AL : Hid (TrS w0 w g a n cap q2 q3 _ _ _ _ _ _ _ x8) := AN
            clear AN
            simp only []
            have AF : Hid _ := AL.out.bend (k' := 7) (m' := 100000 - y) (New.nil x8 x8 25).1 List.nodup_nil (fun _ h => by simp at h) (by have := PQ.out; omega) (by have := PQ.out; omega) (by have := PQ.out; omega) (by have := PQ.out; omega)
            obtain ⟨⟨z0, z1, z2⟩, f0, f1, f2⟩ := three AL.out.box
            clear AL
            go_wp2
            go_meet
            case rel => exact ⟨_, _, _, _, _, _, _, AF⟩
          by_cases hz4' : z = 4
          · subst hz4'
            go_wp2_with fail
            refine Calls.mono (belowT w0 x7 g a n cap zs hr hz hn AL.out.kept.1 2 (by omega) (by omega)) ?_
            rintro e x8 ⟨y, he, h0y, h1y, hk⟩
            subst he
            have AN := AL.out.cur hk (by have := PQ.out; omega) (by have := PQ.out; omega)
            clear AL hk
            have AL : Hid (TrS w0 w g a n cap q2 q3 _ _ _ _ _ _ _ x8) := AN
            clear AN
            simp only []
            go_wp2_with fail
            refine Calls.mono (belowT w0 x8 g a n cap zs hr hz hn AL.out.kept.1 5 (by omega) (by omega)) ?_
            rintro e x9 ⟨v, he, h0v, h1v, hk⟩
            subst he
            have AN := AL.out.cur hk (by have := PQ.out; omega) (by have := PQ.out; omega)
            clear AL hk
            have AL : Hid (TrS w0 w g a n cap q2 q3 _ _ _ _ _ _ _ x9) := AN
            clear AN
            simp only []
            obtain ⟨vn, rfl⟩ : ∃ vn : Nat, v = (vn : Int) := ⟨v.toNat, by omega⟩
            have hmk := makeT vn (by omega)
            have hq3 := lt_of_block AL.out.box
            obtain ⟨bsm, hm1⟩ := AL.out.madeBend 6 (20 - y) vn (by omega) (by have := PQ.out; omega) (by have := PQ.out; omega) (by have := PQ.out; omega) (by have := PQ.out; omega)
            have AF : Hid _ := hm1
            obtain ⟨⟨z0, z1, z2⟩, f0, f1, f2⟩ := three AL.out.box
            clear AL hm1
            go_wp2
            go_meet
            case rel => exact ⟨_, _, _, _, _, _, _, AF⟩
          have hz5 : z = 5 := by omega
          subst hz5
          have hq3 := lt_of_block AL.out.box
          have AF : Hid _ := AL.out.wrap2 (k1' := k) (m1 := m) (k2' := 9) (m2 := 0) 4 0 AL.out.own (New.nil x7 x7 25).1 AL.out.nd List.nodup_nil AL.out.gt (fun _ h => by simp at h) (fun _ _ h => by simp at h) (by have := PQ.out; omega) (by have := PQ.out; omega) (by have := PQ.out; omega) (by have := PQ.out; omega)
          obtain ⟨⟨z0, z1, z2⟩, f0, f1, f2⟩ := three AL.out.box
          clear AL
          go_wp2
          go_meet
          case rel => exact ⟨_, _, _, _, _, _, _, AF⟩
      case rest =>
        clear AL hcap hf4
        obtain ⟨k, m, f, a1, l1, c1, bs, AL⟩ := hcut
        have n23 : q2 ≠ q3 := by have := PQ.out; omega
        obtain ⟨⟨y0, y1, y2⟩, -⟩ := three AL.out.box
        obtain ⟨⟨z0, z1, z2⟩, f0, f1, f2⟩ := three AL.out.res
        obtain ⟨d1, k1⟩ := fill3 (.int .i64 k) (.int .i64 m) (.slice a1 l1 c1) AL.out.res
        have FQ : Hid (_ ∧ Kept w0 w _ g a n cap ∧ New w _ 25 a1 l1 c1 f bs) := ⟨d1, AL.out.kept.into k1 (by have := PQ.out; omega) (by have := PQ.out; omega) (by have := PQ.out; omega), AL.out.own.kept k1 (fun y hy => by have := (AL.out.gt y hy).1; simp; omega), AL.out.nd, fun y hy => by have := (AL.out.gt y hy).1; have := PQ.out; omega⟩
        clear d1 k1 AL
        go_wp2
        (try simp only [Exit.inBlock, Exit.then])
        refine bodyPost_ret (results_cell_row (P := Try.prog) Try.results38 _ _ q2 _ _ _ _ rfl FQ.out.1 Try.underlying25 rfl (by kernel_rfl)) rfl ?_
        exact ⟨k, m, f, a1, l1, c1, bs, rfl, FQ.out.2.1, FQ.out.2.2⟩
end Go.Proofs.Ytmlganaiajhjeaa.By
