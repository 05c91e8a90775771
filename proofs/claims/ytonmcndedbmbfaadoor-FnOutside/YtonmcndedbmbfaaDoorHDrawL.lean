/-
  The contract of the specification's l2heap (a drawn heap), for this seat's proofs. No statement is proved here.
-/
import Derived.Test.YtonmcndedbmbfaaDoorHDraw
import Derived.Deep.DeepCutAuto
namespace Go.Proofs.YtonmcndedbmbfaaDoor.By
open Go.RowKit
set_option linter.unusedVariables false
set_option linter.unusedSimpArgs false

theorem salloc_no_drew {w : World} {q : Nat} : w.grownBy (w.drewN q) none := grown_drewN w q none

set_option maxRecDepth 20000 in
set_option maxHeartbeats 2000000 in
theorem lheapT (w0 w : World) (g : Nat) (a0 : Option Addr) (n0 cap0 : Nat) (zs : List Int) (hr : Reads w0 a0 n0 zs) (hz : Byt zs) (hn0 : n0 ≤ 9223372036854775807) (hc : Cur w0 w g a0 n0 cap0) (h0 : w0.heap.size ≤ w.heap.size) :
    Calls Tryd.prog 19 #[.pointer (some ⟨g, 0, none⟩)] w fun e w' => ∃ (av : Option Addr) (n c : Nat) (half low next : Int) (bv : Option Addr) (m d : Nat) (ws ls : List Int) (gw gl : Nat), e = .returned (.agg #[.slice av n c, .int .i64 half, .int .i64 low, .int .i64 next, .slice bv m d]) ∧ Kept w0 w w' g a0 n0 cap0 ∧ OwnI w' 3 gw av n ws ∧ OwnI w' 59 gl bv (m * 3) ls ∧ (av = none → c = 0) ∧ (bv = none → d = 0) ∧ (n ≤ 8192 ∧ m ≤ 4001 ∧ -1 ≤ half ∧ half ≤ 8192 ∧ -1 ≤ low ∧ low ≤ 8192 ∧ -1 ≤ next ∧ next ≤ 8192) := by
  have HO : Hid (∀ w1, Cur w0 w1 g a0 n0 cap0 → ∀ m : Int, 0 < m → m ≤ 9223372036854775807 → Calls Tryd.prog 36 #[.pointer (some ⟨g, 0, none⟩), .int .i64 m] w1 fun e w' => ∃ x : Bool, e = .returned (.bool x) ∧ Kept w0 w1 w' g a0 n0 cap0) := fun w1 hc m hm hm1 => onceT w0 w1 g a0 n0 cap0 zs hr hz hn0 hc m hm hm1
  have HB : Hid (∀ w1, Cur w0 w1 g a0 n0 cap0 → ∀ m : Int, 0 < m → m ≤ 9223372036854775807 → Calls Tryd.prog 33 #[.pointer (some ⟨g, 0, none⟩), .int .i64 m] w1 fun e w' => ∃ x, e = .returned (.int .i64 x) ∧ 0 ≤ x ∧ x < m ∧ Kept w0 w1 w' g a0 n0 cap0) := fun w1 hc m hm hm1 => belowT w0 w1 g a0 n0 cap0 zs hr hz hn0 hc m hm hm1
  have HG : Hid (∀ w1, Cur w0 w1 g a0 n0 cap0 → Calls Tryd.prog 29 #[.pointer (some ⟨g, 0, none⟩)] w1 fun e w' => ∃ x, e = .returned (.int .i64 x) ∧ I64 x ∧ Kept w0 w1 w' g a0 n0 cap0) := fun w1 hc => signedT w0 w1 g a0 n0 cap0 zs hr hz hn0 hc
  have HPk : Hid (∀ w1, Cur w0 w1 g a0 n0 cap0 → ∀ (gl m : Nat) (l : List Int), 0 < m → m ≤ 1000 → gl ≠ g → (∀ j, j < m → w1.cell? ⟨gl, j, none⟩ = some (.int .i64 (l.getD j 0))) → Calls Tryd.prog 20 #[.pointer (some ⟨g, 0, none⟩), .slice (some ⟨gl, 0, none⟩) m m] w1 fun e w' => ∃ j, j < m ∧ e = .returned (.int .i64 (l.getD j 0)) ∧ Kept w0 w1 w' g a0 n0 cap0) := fun w1 hc gl m l h0 h1 h2 h3 => pickT w0 w1 g a0 n0 cap0 zs hr hz hn0 hc gl m l h0 h1 h2 h3
  have hlg := hc.ltH
  have ga := World.grownBy_alloc w (.cells #[.slice none 0 0, .int .i64 0, .int .i64 0, .int .i64 0, .slice none 0 0] 26) none
  have ba := heap_alloc_new w (.cells #[.slice none 0 0, .int .i64 0, .int .i64 0, .int .i64 0, .slice none 0 0] 26)
  have hc1 : Cur w0 (w.alloc (.cells #[.slice none 0 0, .int .i64 0, .int .i64 0, .int .i64 0, .slice none 0 0] 26)) g a0 n0 cap0 := hc.none ga
  have K0 : Hid _ := And.intro hc1 (And.intro (grown_none ga (some g)) ba)
  clear hr hz hc ga ba hc1
  go_enter Tryd.func19, Tryd.ntmps19
  go_wp2_with fail
  obtain ⟨hc1, g1, ba⟩ := K0.out
  refine (HB.out _ hc1 20 (by omega) (by omega)).mono ?_
  rintro e u1 ⟨x, rfl, hx0, hx1, hk1⟩
  have z1 := (hk1.2.block _ (lt_of_block ba) (by simp; omega)).trans ba
  have K1 : Hid _ := And.intro hk1.1 (And.intro (grown_trans g1 hk1.2) z1)
  clear K0 hc1 g1 ba hk1 z1
  generalize hp0 : w.heap.size = p0 at *
  simp only []
  go_wp2_with fail
  obtain ⟨n, hN⟩ : ∃ n : Nat, (n : Int) = 2 * (16 + x) := ⟨(2 * (16 + x)).toNat, by omega⟩
  refine (newSpec (16 + x) (16 + x) n true (.inl ⟨by omega, by omega, hN, rfl, rfl⟩) u1).mono ?_
  rintro e u2 ⟨av, gw, rfl, k2, l1, l2, o2⟩
  obtain ⟨hc1, g1, z1⟩ := K1.out
  have ga := World.grownBy_alloc u2 (.cells #[.slice av n n, .int .i64 (16 + x), .int .i64 0, .int .i64 0, .slice none 0 0] 26) none
  have ba := heap_alloc_new u2 (.cells #[.slice av n n, .int .i64 (16 + x), .int .i64 0, .int .i64 0, .slice none 0 0] 26)
  have kk := grown_trans k2 ga
  have s1 := g1.size
  have s2 := k2.size
  have s3 := lt_of_block z1
  have K3 : HS w0 w (u2.alloc (.cells #[.slice av n n, .int .i64 (16 + x), .int .i64 0, .int .i64 0, .slice none 0 0] 26)) g p0 u2.heap.size a0 n0 cap0 av n n (16 + x) 0 0 none 0 0 (List.replicate n 0) [] gw (u2.heap.size + 1) :=
    ⟨⟨hc1.none kk, grown_trans g1 (grown_none kk _)⟩, ba, (kk.block p0 s3 (by simp)).trans z1, o2.kept ga (by simp), ⟨rfl, .inl ⟨rfl, rfl, rfl⟩⟩, Nat.le_refl _, ⟨by omega, by omega, by omega⟩, ⟨by omega, by omega, by omega⟩, .inr (by omega), ⟨by omega, by omega, by omega⟩, by omega, by omega⟩
  have K3 : Hid _ := K3
  clear K1 k2 l1 l2 o2 hc1 g1 z1 ga ba kk s1 s2 s3
  generalize hp3 : u2.heap.size = p3 at *
  simp only []
  go_wp2_with fail
  refine (HB.out _ K3.out.kept.1 6 (by omega) (by omega)).mono ?_
  rintro e u4 ⟨N, rfl, hN0, hN1, hk4⟩
  have K4 : Hid _ := K3.out.cur hk4
  clear K3 hk4 hp3
  obtain ⟨off, rfl⟩ : ∃ off, av = some ⟨gw, off, none⟩ := by
    rcases K4.out.row.2 with h | ⟨off, h, _⟩
    · omega
    · exact ⟨off, h⟩
  simp only []
  go_wp2_with fail
  go_loopw [6] (fun i wr => ∃ (k nx m d gl : Nat) (bv : Option Addr) (ws ls : List Int), (k : Int) ≤ N ∧ i = .int .i64 k ∧ (nx : Int) ≤ 16 + x ∧ m ≤ k ∧ Hid (HS w0 w wr g p0 p3 a0 n0 cap0 (some ⟨gw, off, none⟩) n n (16 + x) 0 (nx : Int) bv m d ws ls gw gl)) (fun i _ => N.toNat - (intOf i).toNat)
  case atStart => exact ⟨0, 0, 0, 0, _, none, _, _, hN0, rfl, by omega, Nat.le_refl _, K4⟩
  case round =>
    obtain ⟨k, nx, m, d, gl, bv, ws, ls, hk, rfl, hnx, hmk, KS⟩ := hrel
    clear K4
    by_cases hlt : (k : Int) < N
    · go_wp2_with fail
      refine (HB.out _ KS.out.kept.1 5 (by omega) (by omega)).mono ?_
      rintro e u5 ⟨y, rfl, hy0, hy1, hk5⟩
      obtain ⟨yy, rfl⟩ : ∃ yy : Nat, y = (yy : Int) := ⟨y.toNat, by omega⟩
      have K5 : Hid _ := KS.out.cur hk5
      clear KS hk5
      simp only []
      go_wp2_with fail
      by_cases href : refused (16 + x) 0 (nx : Int) (1 + (yy : Int))
      · obtain ⟨⟨v0, v1, v2, v3, v4⟩, -⟩ := five K5.out.hp
        refine (sallocNo p3 (16 + x) 0 (nx : Int) (1 + (yy : Int)) u5 v1 v2 v3 (by omega) (by omega) (by omega) (by omega) (by omega) (by omega) href).mono ?_
        rintro e u6 ⟨rfl, q6, rfl⟩
        have K6 : Hid _ := K5.out.none (grown_drewN u5 q6 none)
        clear v0 v1 v2 v3 v4 K5 href
        simp only []
        go_wp2_with fail
        go_roundw
        case rel => exact ⟨k + 1, nx, m, d, gl, bv, ws, ls, by omega, by go_num, hnx, by omega, K6⟩
        case measure => simp [intOf]; omega
      · have href' : 1 + (yy : Int) ≤ 16 + x - (nx : Int) := by unfold refused at href; omega
        have hrow : RowAt u5 3 gw off ws := by
          rcases K5.out.row.2 with h | ⟨off', h, hr⟩
          · omega
          · simp only [Option.some.injEq, Addr.mk.injEq, and_true, true_and] at h
            subst h; exact hr
        have A := sallocYes p3 n m n d gw off nx (1 + yy) bv (16 + x) 0 ws u5 K5.out.hp hrow K5.out.row.1 (Nat.le_refl _) K5.out.lw.2.1 (by omega) (by omega) (by omega) (by omega) (by omega) (by omega) (by omega) (by omega) (by omega) (by omega)
        have ee : ((1 + yy : Nat) : Int) = 1 + (yy : Int) := by omega
        rw [ee] at A
        refine A.mono ?_
        rintro e u6 ⟨rfl, hp6, r6, w6, k6, k6'⟩
        have K6 : Hid _ := K5.out.taken k6 k6' (by omega) hp6 r6 (by rw [zeroAt_len]; exact K5.out.row.1)
        clear A ee href hrow K5 hp6 r6 k6 k6'
        simp only []
        go_wp2_with fail
        refine (HB.out _ K6.out.kept.1 3 (by omega) (by omega)).mono ?_
        rintro e u7 ⟨o, rfl, ho0, ho1, hk7⟩
        obtain ⟨oo, rfl⟩ : ∃ oo : Nat, o = (oo : Int) := ⟨o.toNat, by omega⟩
        have K7 : Hid _ := K6.out.cur hk7
        clear K6 hk7
        simp only []
        go_wp2_with fail
        refine (HG.out _ K7.out.kept.1).mono ?_
        rintro e u8 ⟨v, rfl, hv, hk8⟩
        have K8 : Hid _ := K7.out.cur hk8
        clear K7 hk8
        simp only []
        go_wp2_with fail
        cases hin : inB 0 ((nx : Int) + (1 + (yy : Int))) (nx : Int) (oo : Int) with
        | false =>
          obtain ⟨⟨v0, v1, v2, v3, v4⟩, -⟩ := five K8.out.hp
          refine (sstoreNo p3 0 ((nx : Int) + (1 + (yy : Int))) (nx : Int) (oo : Int) v u8 v2 v3 (by omega) (by omega) hin).mono ?_
          rintro e u9 ⟨rfl, rfl⟩
          have e8 : ((nx + (1 + yy) : Nat) : Int) = (nx : Int) + (1 + (yy : Int)) := by omega
          have K8' := K8
          rw [← e8] at K8'
          clear v0 v1 v2 v3 v4 hin K8 e8
          simp only []
          go_wp2_with fail
          go_roundw
          case rel => exact ⟨k + 1, nx + (1 + yy), m, d, gl, bv, _, ls, by omega, by go_num, by omega, by omega, K8'⟩
          case measure => simp [intOf]; omega
        | true =>
          have hrow : RowAt u8 3 gw off (zeroAt ws nx (1 + yy)) := by
            rcases K8.out.row.2 with h | ⟨off', h, hr⟩
            · omega
            · simp only [Option.some.injEq, Addr.mk.injEq, and_true, true_and] at h
              subst h; exact hr
          obtain ⟨j1, j2, j3, j4⟩ := inB_out hin
          have hwl := K8.out.wl
          refine (sstoreYes p3 n m n d gw gl off nx oo bv (16 + x) 0 ((nx : Int) + (1 + (yy : Int))) v (zeroAt ws nx (1 + yy)) ls u8 K8.out.hp K8.out.log hrow K8.out.row.1 (by omega) K8.out.ll.2.1 K8.out.lw.2.1 (by omega) (by omega) (by omega) hin (by omega)).mono ?_
          rintro e u9 ⟨rfl, b9, d9, g9, hp9, l9, r9, hg9, w9, T9, k9⟩
          have K9 : Hid _ := K8.out.stored T9 k9 (by omega) hp9 r9 (by rw [List.length_set]; exact K8.out.row.1) l9 hg9
          have hm1 : pushM m = m + 1 := if_neg (by omega)
          have e8 : ((nx + (1 + yy) : Nat) : Int) = (nx : Int) + (1 + (yy : Int)) := by omega
          have K9' := K9
          rw [← e8] at K9'
          clear e8 K9
          clear hrow hin hwl K8 hp9 l9 r9 hg9 T9 k9 j1 j2 j3 j4
          simp only []
          go_wp2_with fail
          go_roundw
          case rel => exact ⟨k + 1, nx + (1 + yy), pushM m, d9, g9, b9, _, _, by omega, by go_num, by omega, by omega, K9'⟩
          case measure => simp [intOf]; omega
    · go_wp2_with fail
      refine (HO.out _ KS.out.kept.1 4 (by omega) (by omega)).mono ?_
      rintro e u10 ⟨xb, rfl, hk10⟩
      have K10 : Hid _ := KS.out.cur hk10
      clear KS hk10
      simp only []
      go_upto_if 38 with fail
      go_cut [4] (fun s4 wx => ∃ low next : Int, 0 ≤ low ∧ low ≤ 35 ∧ 0 ≤ next ∧ next ≤ 70 ∧ Hid (HS w0 w wx g p0 p3 a0 n0 cap0 (some ⟨gw, off, none⟩) n n (16 + x) low next bv m d ws ls gw gl))
      case first =>
        cases xb with
        | false =>
          go_wp2_with fail
          go_meet
          exact ⟨0, (nx : Int), by omega, by omega, by omega, by omega, K10⟩
        | true =>
          obtain ⟨⟨v0, v1, v2, v3, v4⟩, f0, f1, f2, f3, f4⟩ := five K10.out.hp
          have K11 : Hid _ := K10.out.put (grown_setCell u10 p3 2 (.int .i64 (16 + x))) (heap_setCell_same u10 p3 2 _ 26 (.int .i64 (16 + x)) K10.out.hp)
          clear K10
          go_wp2_with fail
          clear v0 v1 v2 v3 v4 f0 f1 f2 f3 f4
          generalize u10.setCell ⟨p3, 2, none⟩ (.int .i64 (16 + x)) = u11 at *
          have K11d : Hid _ := K11.out.none (grown_drew (World.grownBy.refl u11 none))
          refine wp_region_held_drew (S := fun v => v.cell? ⟨p3, 1, none⟩ = some (.int .i64 (16 + x))) (by kernel_rfl) (five K11d.out.hp).1.2.1 (fun hH => ?_)
          clear K11
          generalize u11.drew = u12 at *
          simp only [List.size_toArray, List.length_cons, List.length_nil, Nat.reduceAdd, Array.replicate, List.replicate]
          refine wpAnyH_take (i := 0) (v := ?_) rfl (by kernel_rfl) (by kernel_rfl) (by kernel_rfl) (fun _ _ _ h => h) (Or.inl ⟨by rfl, ?_⟩) hH ?_
          rotate_left
          · (intro v hS; (try dsimp only at hS); go_simp; try with_reducible rfl)
          simp only [Act.put, List.setIfInBounds_toArray, List.set_cons_zero, List.set_cons_succ, List.getElem_toArray, List.getElem_cons_succ, List.getElem_cons_zero]
          refine wpAnyH_take (i := 1) (v := ?_) rfl (by kernel_rfl) (by kernel_rfl) (by kernel_rfl) (fun _ _ _ h => h) (Or.inl ⟨by rfl, ?_⟩) hH ?_
          rotate_left
          · (intro v hS; (try dsimp only at hS); go_simp; try with_reducible rfl)
          simp only [Act.put, List.setIfInBounds_toArray, List.set_cons_zero, List.set_cons_succ, List.getElem_toArray, List.getElem_cons_succ, List.getElem_cons_zero]
          refine wpAnyH_take (i := 2) (v := ?_) rfl (by kernel_rfl) (by kernel_rfl) (by kernel_rfl) (fun _ _ _ h => h) (Or.inl ⟨by rfl, ?_⟩) hH ?_
          rotate_left
          · (intro v hS; (try dsimp only at hS); go_simp; try with_reducible rfl)
          simp only [Act.put, List.setIfInBounds_toArray, List.set_cons_zero, List.set_cons_succ, List.getElem_toArray, List.getElem_cons_succ, List.getElem_cons_zero]
          refine wpAnyH_take (i := 3) (v := ?_) rfl (by kernel_rfl) (by kernel_rfl) (by kernel_rfl) (fun _ _ _ h => h) (Or.inl ⟨by rfl, ?_⟩) hH ?_
          rotate_left
          · (intro v hS; (try dsimp only at hS); go_simp; try with_reducible rfl)
          simp only [Act.put, List.setIfInBounds_toArray, List.set_cons_zero, List.set_cons_succ, List.getElem_toArray, List.getElem_cons_succ, List.getElem_cons_zero]
          refine wpAnyH_take (i := 4) (v := ?_) rfl (by kernel_rfl) (by kernel_rfl) (by kernel_rfl) (fun _ _ _ h => h) (Or.inl ⟨by rfl, ?_⟩) hH ?_
          rotate_left
          · (intro v hS; (try dsimp only at hS); go_simp; try with_reducible rfl)
          simp only [Act.put, List.setIfInBounds_toArray, List.set_cons_zero, List.set_cons_succ, List.getElem_toArray, List.getElem_cons_succ, List.getElem_cons_zero]
          refine wpAnyH_take (i := 5) (v := ?_) rfl (by kernel_rfl) (by kernel_rfl) (by kernel_rfl) (fun _ _ _ h => h) (Or.inl ⟨by rfl, ?_⟩) hH ?_
          rotate_left
          · (intro v hS; (try dsimp only at hS); go_simp; try with_reducible rfl)
          simp only [Act.put, List.setIfInBounds_toArray, List.set_cons_zero, List.set_cons_succ, List.getElem_toArray, List.getElem_cons_succ, List.getElem_cons_zero]
          refine wpAnyH_ready (rs := [6]) (by kernel_rfl) (by simp) ?_
          refine AllReadyH.cons rfl (fun K hK => ?_) AllReadyH.nil
          go_simp
          have e1 : IntKind.i64.wrap (16 + x + 1) = 16 + x + 1 := IntWalk.i64_in _ (by omega)
          simp only [e1]
          refine (HB.out u12 K11d.out.kept.1 (16 + x + 1) (by omega) (by omega)).mono ?_
          rintro e u13 ⟨y, rfl, hy0, hy1, hk13⟩
          have K13 : Hid _ := K11d.out.cur hk13
          clear K11d hk13 hH
          refine hK.out _ _ (five K13.out.hp).1.2.1 (fun hH => ?_)
          clear hK K
          simp only [Act.put, List.setIfInBounds_toArray, List.set_cons_zero, List.set_cons_succ, List.getElem_toArray, List.getElem_cons_succ, List.getElem_cons_zero]
          refine wpAnyH_take (i := 7) (v := ?_) rfl (by kernel_rfl) (by kernel_rfl) (by kernel_rfl) (fun _ _ _ h => h) (Or.inl ⟨by rfl, ?_⟩) hH ?_
          rotate_left
          · (intro v hS; (try dsimp only at hS); go_simp; try with_reducible rfl)
          simp only [Act.put, List.setIfInBounds_toArray, List.set_cons_zero, List.set_cons_succ, List.getElem_toArray, List.getElem_cons_succ, List.getElem_cons_zero]
          refine wpAnyH_take (i := 8) (v := ?_) rfl (by kernel_rfl) (by kernel_rfl) (by kernel_rfl) (fun _ _ _ h => h) (Or.inl ⟨by rfl, ?_⟩) hH ?_
          rotate_left
          · (intro v hS; (try dsimp only at hS); go_simp; try with_reducible rfl)
          simp only [Act.put, List.setIfInBounds_toArray, List.set_cons_zero, List.set_cons_succ, List.getElem_toArray, List.getElem_cons_succ, List.getElem_cons_zero]
          have e2 : IntKind.i64.wrap (16 + x + y) = 16 + x + y := IntWalk.i64_in _ (by omega)
          simp only [e2]
          obtain ⟨⟨v0, v1, v2, v3, v4⟩, f0, f1, f2, f3, f4⟩ := five K13.out.hp
          have K14 : Hid _ := K13.out.put (grown_setCell u13 p3 3 (.int .i64 (16 + x + y))) (heap_setCell_same u13 p3 3 _ 26 (.int .i64 (16 + x + y)) K13.out.hp)
          refine wpAnyH_ready (rs := [9]) (by kernel_rfl) (by simp) ?_
          refine AllReadyH.cons rfl (fun K hK => ?_) AllReadyH.nil
          go_simp
          clear K13 hH
          refine hK.out _ _ (five K14.out.hp).1.2.1 (fun hH => ?_)
          clear hK K hH
          refine wpAnyH_done (by kernel_rfl) ?_ _
          go_wp2_with fail
          go_meet
          exact ⟨16 + x, 16 + x + y, by omega, by omega, by omega, by omega, K14⟩
      case rest =>
      obtain ⟨low, next, b1, b2, b3, b4, K15⟩ := hcut
      clear K10
      go_wp2_with fail
      refine (HO.out _ K15.out.kept.1 12 (by omega) (by omega)).mono ?_
      rintro e u16 ⟨xb, rfl, hk16⟩
      have K16 : Hid _ := K15.out.cur hk16
      clear K15 hk16
      simp only []
      go_upto_if 52 with fail
      go_cut [4] (fun s4 wx => ∃ (av : Option Addr) (n c : Nat) (half low next : Int) (bv : Option Addr) (m d : Nat) (ws ls : List Int) (gw gl : Nat), Hid (HD w0 w wx g p0 p3 a0 n0 cap0 av n c half low next bv m d ws ls gw gl))
      case first =>
        cases xb with
        | false =>
          go_wp2_with fail
          go_meet
          exact ⟨_, _, _, _, _, _, _, _, _, _, _, _, _, K16.out.done (fun h => by cases h) (by omega)⟩
        | true =>
          go_wp2_with fail
          refine (HB.out _ K16.out.kept.1 7 (by omega) (by omega)).mono ?_
          rintro e u17 ⟨y, rfl, hy0, hy1, hk17⟩
          have K17 : Hid _ := K16.out.cur hk17
          clear K16 hk17
          obtain ⟨⟨v0, v1, v2, v3, v4⟩, f0, f1, f2, f3, f4⟩ := five K17.out.hp
          rcases (show y = 0 ∨ y = 1 ∨ y = 2 ∨ y = 3 ∨ y = 4 ∨ y = 5 ∨ y = 6 by omega) with rfl | rfl | rfl | rfl | rfl | rfl | rfl
          · simp only []
            go_wp2_with fail
            clear v0 v1 v2 v3 v4 f0 f1 f2 f3 f4
            have ga := World.grownBy_alloc u17 (.cells (([15, 4097, -1, 16 + x + 1] : List Int).map (Value.int .i64)).toArray 3) none
            have K18 : Hid _ := K17.out.none ga
            have hne : u17.heap.size ≠ g := by have := K17.out.kept.1.ltH; omega
            refine (HPk.out _ K18.out.kept.1 u17.heap.size 4 [15, 4097, -1, 16 + x + 1] (by omega) (by omega) hne (pickCells u17 [15, 4097, -1, 16 + x + 1])).mono ?_
            rintro e u19 ⟨j, hj, rfl, hk19⟩
            have K19 : Hid _ := K18.out.cur hk19
            have hb : -1 ≤ ([15, 4097, -1, 16 + x + 1] : List Int).getD j 0 ∧ ([15, 4097, -1, 16 + x + 1] : List Int).getD j 0 ≤ 8192 := by
              rcases (show j = 0 ∨ j = 1 ∨ j = 2 ∨ j = 3 by omega) with rfl | rfl | rfl | rfl <;> simp <;> omega
            generalize ([15, 4097, -1, 16 + x + 1] : List Int).getD j 0 = val at *
            clear K17 K18 ga hk19 hne hj
            obtain ⟨⟨v0, v1, v2, v3, v4⟩, f0, f1, f2, f3, f4⟩ := five K19.out.hp
            have K20 : Hid _ := K19.out.put (grown_setCell u19 p3 1 (.int .i64 val)) (heap_setCell_same u19 p3 1 _ 26 (.int .i64 val) K19.out.hp)
            clear K19
            simp only []
            go_wp2_with fail
            go_meet
            exact ⟨_, _, _, _, _, _, _, _, _, _, _, _, _, K20.out.done (fun h => by cases h) (by omega)⟩
          · simp only []
            go_wp2_with fail
            clear v0 v1 v2 v3 v4 f0 f1 f2 f3 f4
            have ga := World.grownBy_alloc u17 (.cells (([1, -1, 2 * (16 + x)] : List Int).map (Value.int .i64)).toArray 3) none
            have K18 : Hid _ := K17.out.none ga
            have hne : u17.heap.size ≠ g := by have := K17.out.kept.1.ltH; omega
            refine (HPk.out _ K18.out.kept.1 u17.heap.size 3 [1, -1, 2 * (16 + x)] (by omega) (by omega) hne (pickCells u17 [1, -1, 2 * (16 + x)])).mono ?_
            rintro e u19 ⟨j, hj, rfl, hk19⟩
            have K19 : Hid _ := K18.out.cur hk19
            have hb : -1 ≤ ([1, -1, 2 * (16 + x)] : List Int).getD j 0 ∧ ([1, -1, 2 * (16 + x)] : List Int).getD j 0 ≤ 8192 := by
              rcases (show j = 0 ∨ j = 1 ∨ j = 2 by omega) with rfl | rfl | rfl <;> simp <;> omega
            generalize ([1, -1, 2 * (16 + x)] : List Int).getD j 0 = val at *
            clear K17 K18 ga hk19 hne hj
            obtain ⟨⟨v0, v1, v2, v3, v4⟩, f0, f1, f2, f3, f4⟩ := five K19.out.hp
            have K20 : Hid _ := K19.out.put (grown_setCell u19 p3 2 (.int .i64 val)) (heap_setCell_same u19 p3 2 _ 26 (.int .i64 val) K19.out.hp)
            clear K19
            simp only []
            go_wp2_with fail
            go_meet
            exact ⟨_, _, _, _, _, _, _, _, _, _, _, _, _, K20.out.done (fun h => by cases h) (by omega)⟩
          · simp only []
            go_wp2_with fail
            clear v0 v1 v2 v3 v4 f0 f1 f2 f3 f4
            have ga := World.grownBy_alloc u17 (.cells (([-1, 2 * (16 + x) + 1, 16 + x + 1] : List Int).map (Value.int .i64)).toArray 3) none
            have K18 : Hid _ := K17.out.none ga
            have hne : u17.heap.size ≠ g := by have := K17.out.kept.1.ltH; omega
            refine (HPk.out _ K18.out.kept.1 u17.heap.size 3 [-1, 2 * (16 + x) + 1, 16 + x + 1] (by omega) (by omega) hne (pickCells u17 [-1, 2 * (16 + x) + 1, 16 + x + 1])).mono ?_
            rintro e u19 ⟨j, hj, rfl, hk19⟩
            have K19 : Hid _ := K18.out.cur hk19
            have hb : -1 ≤ ([-1, 2 * (16 + x) + 1, 16 + x + 1] : List Int).getD j 0 ∧ ([-1, 2 * (16 + x) + 1, 16 + x + 1] : List Int).getD j 0 ≤ 8192 := by
              rcases (show j = 0 ∨ j = 1 ∨ j = 2 by omega) with rfl | rfl | rfl <;> simp <;> omega
            generalize ([-1, 2 * (16 + x) + 1, 16 + x + 1] : List Int).getD j 0 = val at *
            clear K17 K18 ga hk19 hne hj
            obtain ⟨⟨v0, v1, v2, v3, v4⟩, f0, f1, f2, f3, f4⟩ := five K19.out.hp
            have K20 : Hid _ := K19.out.put (grown_setCell u19 p3 3 (.int .i64 val)) (heap_setCell_same u19 p3 3 _ 26 (.int .i64 val) K19.out.hp)
            clear K19
            simp only []
            go_wp2_with fail
            go_meet
            exact ⟨_, _, _, _, _, _, _, _, _, _, _, _, _, K20.out.done (fun h => by cases h) (by omega)⟩
          · have kg := grown_setCell u17 p3 0 (.slice (some ⟨gw, off, none⟩) (n - 1) n)
            have hp' := heap_setCell_same u17 p3 0 _ 26 (.slice (some ⟨gw, off, none⟩) (n - 1) n) K17.out.hp
            have r1 := K17.out.row.take (n - 1) (by omega)
            have i1 : ((n : Int) - 1).toNat = n - 1 := by omega
            have i2 : (0 : Int) ≤ (n : Int) - 1 := by omega
            have i3 : (n : Int) - 1 ≤ (n : Int) := by omega
            have i5 : (n : Int) ≤ 100 := by omega
            have hnb : bv = none → d = 0 := fun e => by
              rcases K17.out.log.2 with ⟨_, _, r⟩ | ⟨off', cur, r, _⟩
              · exact r
              · rw [e] at r; cases r
            have lw := K17.out.lw
            have ll := K17.out.log.own
            have lll := K17.out.ll
            have FD : Hid _ := K17.out.slim kg hp' (r1.kept kg (by simp; omega)) (ll.kept kg (by simp; omega)) (by omega) (by omega) (fun h => by cases h) hnb (by omega)
            clear kg hp' r1 hnb lw ll lll K17 hN
            simp only []
            go_wp2_with fail
            go_meet
            exact ⟨_, _, _, _, _, _, _, _, _, _, _, _, _, FD⟩
          · have hmk : (Instr.makeSlice 24 (.int .i64 4001) (.int .i64 4001)).run Tryd.prog u17 = .ok (.slice (some ⟨u17.heap.size, 0, none⟩) 4001 4001) (u17.alloc (.cells (madeCells #[.int .i64 0, .int .i64 0, .int .i64 0] (4001 * 3)) 59)) := makeA 4001 (by omega) u17
            have sz : (u17.setCell ⟨p3, 4, none⟩ (.slice (some ⟨u17.heap.size, 0, none⟩) 4001 4001)).heap.size = u17.heap.size := by simp [World.setCell]
            have ra := madeA_row (u17.setCell ⟨p3, 4, none⟩ (.slice (some ⟨u17.heap.size, 0, none⟩) 4001 4001)) (4001 * 3)
            rw [sz] at ra
            generalize madeCells #[.int .i64 0, .int .i64 0, .int .i64 0] (4001 * 3) = mc at hmk ra
            have k1 := grown_setCell u17 p3 4 (.slice (some ⟨u17.heap.size, 0, none⟩) 4001 4001)
            have kg := grown_trans k1 (World.grownBy_alloc (u17.setCell ⟨p3, 4, none⟩ (.slice (some ⟨u17.heap.size, 0, none⟩) 4001 4001)) (.cells mc 59) (some p3))
            have lt3 := lt_of_block K17.out.hp
            have hp' := (heap_alloc_old (u17.setCell ⟨p3, 4, none⟩ (.slice (some ⟨u17.heap.size, 0, none⟩) 4001 4001)) (.cells mc 59) (by omega)).trans (heap_setCell_same u17 p3 4 _ 26 (.slice (some ⟨u17.heap.size, 0, none⟩) 4001 4001) K17.out.hp)
            have lw := K17.out.lw
            have FD : Hid _ := K17.out.slim kg hp' (K17.out.row.kept kg (by simp; omega)) (ra.own (List.length_replicate)) (by omega) (by have := lt_of_block K17.out.z; omega) (fun h => by cases h) (fun h => by cases h) (by omega)
            clear kg hp' ra lw K17 k1 sz
            simp only []
            go_wp2_with fail
            go_meet
            exact ⟨_, _, _, _, _, _, _, _, _, _, _, _, _, FD⟩
          · have hmk : (Instr.makeSlice 24 (.int .i64 4000) (.int .i64 4000)).run Tryd.prog u17 = .ok (.slice (some ⟨u17.heap.size, 0, none⟩) 4000 4000) (u17.alloc (.cells (madeCells #[.int .i64 0, .int .i64 0, .int .i64 0] (4000 * 3)) 59)) := makeA 4000 (by omega) u17
            have sz : (u17.setCell ⟨p3, 4, none⟩ (.slice (some ⟨u17.heap.size, 0, none⟩) 4000 4000)).heap.size = u17.heap.size := by simp [World.setCell]
            have ra := madeA_row (u17.setCell ⟨p3, 4, none⟩ (.slice (some ⟨u17.heap.size, 0, none⟩) 4000 4000)) (4000 * 3)
            rw [sz] at ra
            generalize madeCells #[.int .i64 0, .int .i64 0, .int .i64 0] (4000 * 3) = mc at hmk ra
            have k1 := grown_setCell u17 p3 4 (.slice (some ⟨u17.heap.size, 0, none⟩) 4000 4000)
            have kg := grown_trans k1 (World.grownBy_alloc (u17.setCell ⟨p3, 4, none⟩ (.slice (some ⟨u17.heap.size, 0, none⟩) 4000 4000)) (.cells mc 59) (some p3))
            have lt3 := lt_of_block K17.out.hp
            have hp' := (heap_alloc_old (u17.setCell ⟨p3, 4, none⟩ (.slice (some ⟨u17.heap.size, 0, none⟩) 4000 4000)) (.cells mc 59) (by omega)).trans (heap_setCell_same u17 p3 4 _ 26 (.slice (some ⟨u17.heap.size, 0, none⟩) 4000 4000) K17.out.hp)
            have lw := K17.out.lw
            have FD : Hid _ := K17.out.slim kg hp' (K17.out.row.kept kg (by simp; omega)) (ra.own (List.length_replicate)) (by omega) (by have := lt_of_block K17.out.z; omega) (fun h => by cases h) (fun h => by cases h) (by omega)
            clear kg hp' ra lw K17 k1 sz
            simp only []
            go_wp2_with fail
            go_meet
            exact ⟨_, _, _, _, _, _, _, _, _, _, _, _, _, FD⟩
          · have kg := grown_setCell u17 p3 0 (.slice none 0 0)
            have hp' := heap_setCell_same u17 p3 0 _ 26 (.slice none 0 0) K17.out.hp
            have hnb : bv = none → d = 0 := fun e => by
              rcases K17.out.log.2 with ⟨_, _, r⟩ | ⟨off', cur, r, _⟩
              · exact r
              · rw [e] at r; cases r
            have ll := K17.out.log.own
            have lll := K17.out.ll
            have FD : Hid _ := K17.out.slim (ws' := []) (gw' := gw) kg hp' ⟨rfl, .inl rfl⟩ (ll.kept kg (by simp; omega)) (by have := K17.out.lw; omega) (by omega) (fun _ => rfl) hnb (by omega)
            clear kg hp' hnb ll lll K17
            simp only []
            go_wp2_with fail
            go_meet
            exact ⟨_, _, _, _, _, _, _, _, _, _, _, _, _, FD⟩
      case rest =>
      obtain ⟨av', n', c', half', low', next', bv', m', d', ws', ls', gw', gl', FD⟩ := hcut
      clear K16
      obtain ⟨⟨v0, v1, v2, v3, v4⟩, -⟩ := five FD.out.hp
      obtain ⟨⟨y0, y1, y2, y3, y4⟩, f0, f1, f2, f3, f4⟩ := five FD.out.z
      obtain ⟨d1, k5⟩ := fill5 (.slice av' n' c') (.int .i64 half') (.int .i64 low') (.int .i64 next') (.slice bv' m' d') FD.out.z
      have lp := FD.out.lp
      have nw := FD.out.nw
      have nl := FD.out.nl
      have nn : p0 ≠ p3 := lp.2.2
      have FIN : Hid _ := And.intro (Turn3.kept (p := p0) (q := p0) (r := p0) FD.out.kept (Turn3.of k5 (.inr (.inl rfl))) lp.1 lp.1 lp.1 (by omega) (by omega)) (And.intro (FD.out.rw.kept k5 (by simp; omega)) (And.intro (FD.out.rl.kept k5 (by simp; omega)) (And.intro FD.out.na (And.intro FD.out.nb FD.out.fits))))
      have D1 : Hid _ := d1
      clear FD k5 d1 lp nw nl
      go_wp2
      (try simp only [Exit.inBlock, Exit.then])
      refine bodyPost_ret (results_cell_row (P := Tryd.prog) Tryd.results19 _ _ p0 _ _ _ _ rfl D1.out Tryd.underlying26 rfl (by kernel_rfl)) rfl ?_
      exact ⟨av', n', c', half', low', next', bv', m', d', ws', ls', gw', gl', rfl, FIN.out⟩
end Go.Proofs.YtonmcndedbmbfaaDoor.By
