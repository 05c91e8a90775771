/-
  The walk of laws.FnTexts. No statement is proved here.
-/
import Derived.Test.YtonmcndedbmbfaaDrawT2
import Derived.Test.YtonmcndedbmbfaaTxtI
import Derived.Test.YtonmcndedbmbfaaGetTI
import Derived.Test.YtonmcndedbmbfaaSame
namespace Go.Proofs.Ytonmcndedbmbfaa.By
open Go.RowKit
set_option linter.unusedVariables false
set_option linter.unusedSimpArgs false

theorem Mine.reads {w : World} {B : Nat} {a : Option Addr} {n c : Nat} {ys : List Int} (h : Mine w B (.slice a n c) ys) (hn : ys.length = n) : Reads w a n ys ∧ Plain a := by
  rcases h.shape with ⟨e, rfl⟩ | ⟨g, cap, e, _, hrow, _⟩
  · cases e; exact ⟨⟨hn, .inl hn.symm⟩, .inl rfl⟩
  · cases e; exact ⟨hrow.reads, .inr ⟨g, 0, rfl⟩⟩
theorem conv22 (q : Nat) (w : World) (h : w.heap[q]? = some (.cells #[.int .u8 97] 5 (0, 0))) : ∃ w', (convert 22 22 (.slice (some ⟨q, 0, none⟩) 1 1)).run Try.prog w = .ok (.slice (some ⟨q, 0, none⟩) 1 1) w' ∧ w.grownBy w' (some q) ∧ w'.cell? ⟨q, 0, none⟩ = some (.int .u8 97) := by
  have hs : w.shape? q = some (5, 1) := by simp [World.shape?, h]
  refine ⟨w.freeze ⟨q, 1, none⟩ 1, ?_, ⟨rfl, rfl, rfl, ?_, ?_⟩, ?_⟩
  · simp [convert, run_underlying Try.underlying22, run_underlying Try.underlying5, markStringish, hs]
  · simp [World.freeze]
  · intro k hk hne
    have : q ≠ k := fun e => hne (by rw [e])
    simp [World.freeze, Array.getElem?_modify, this]
  · simp [World.freeze, World.cell?, Array.getElem?_modify, h]
theorem oneA : getText [1, 97] 0 = some ([97], 2) := by decide

set_option maxRecDepth 20000 in
set_option maxHeartbeats 1500000 in
theorem lawTexts (a0 : Option Addr) (n0 cap0 : Nat) (zs : List Int) (w : World) (hr : Reads w a0 n0 zs) (hz : Byt zs) (hn0 : n0 ≤ 9223372036854775807) :
    Calls Try.prog 3 #[.slice a0 n0 cap0] w fun e w' => e = .returned (.bool true) ∧ w.grownBy w' none := by
  have HR : Hid (Reads w a0 n0 zs ∧ Byt zs) := ⟨hr, hz⟩
  clear hr hz
  go_enter Try.func3, Try.ntmps3
  go_wp2_with fail
  refine (drawPutTextT a0 n0 cap0 zs w HR.out.1 HR.out.2 hn0).mono ?_
  rintro e u1 ⟨v1, ys, v2, ts, rfl, hys, hts, m1, m2, G1⟩
  obtain ⟨a1, c1, rfl⟩ := m1.form
  obtain ⟨a2, c2, rfl⟩ := m2.form
  obtain ⟨r1, -⟩ := m1.reads rfl
  obtain ⟨r2, p2⟩ := m2.reads rfl
  have hyb := m1.2
  have htb := m2.2
  have W1 : Hid (w.grownBy u1 none ∧ Reads u1 a1 ys.length ys ∧ Reads u1 a2 ts.length ts ∧ Plain a2) := ⟨G1, r1, r2, p2⟩
  have BY : Hid (Byt ys ∧ Byt ts) := ⟨hyb, htb⟩
  clear m1 m2 G1 r1 r2 p2 hyb htb
  simp only []
  go_wp2_with fail
  obtain ⟨G1, r1, r2, p2⟩ := W1.out
  refine (implTxt a1 a2 ys.length ts.length c1 c2 ys ts u1 r1 r2 (by omega) (by omega)).mono ?_
  rintro e u2 ⟨g, rfl, g2, hb2, hrow2⟩
  have hzl : (ys ++ textB ts).length = ys.length + (textB ts).length := List.length_append
  have W2 : Hid (w.grownBy u2 none ∧ Reads u2 a2 ts.length ts ∧ Plain a2 ∧ Row u2 g (ys.length + (textB ts).length) (ys ++ textB ts)) := ⟨grown_trans G1 g2, r2.none g2, p2, hrow2⟩
  have hTl : (textB ts).length ≤ 45 := by
    by_cases h : 40 < ts.length
    · rw [textB_long h]; simp
    · exact textB_len ts (by omega)
  have HTB : Hid (Byt (ys ++ textB ts)) := byt_app BY.out.1 (textB_byt ts BY.out.2)
  clear W1 G1 r1 r2 p2 g2 hb2 hrow2
  simp only []
  go_wp2_with fail
  obtain ⟨G2, r2, p2, row2⟩ := W2.out
  refine (implGetC g (ys.length + (textB ts).length) (ys.length + (textB ts).length) (ys ++ textB ts) (ys.length : Int) u2 row2 hzl HTB.out (by omega) (Nat.le_refl _) (by omega)).mono ?_
  rintro e u3 ⟨v3, x3, rfl, g3, hans⟩
  have G3 := grown_trans G2 g3
  have r23 := r2.none g3
  simp only []
  go_upto_region 4 with fail
  go_cut [43] (fun s43 wx => s43 = .bool false ∧ Hid (w.grownBy wx none))
  case first =>
    by_cases hlong : 40 < ts.length
    · have HRW : Hid (w.grownBy u3 none) := G3
      have hnl : ¬ ((ts.length : Int) ≤ 40) := by omega
      clear W2 HTB BY G2 r2 p2 row2 g3 hans G3 r23 hzl hTl
      generalize hkt : ts.length = kt at *
      generalize ys.length = ky at *
      generalize (textB ts).length = kT at *
      go_wp2_with fail
      go_meet
      exact ⟨rfl, HRW⟩
    · have hT := textBack ys ts hlong (numB_len _)
      rw [hT, hzl] at hans
      obtain ⟨g3', cp3, rfl, rfl, hb3, hrow3⟩ := hans
      have HRW : Hid (w.grownBy u3 none ∧ Reads u3 (some ⟨g3', 0, none⟩) ts.length ts ∧ Reads u3 a2 ts.length ts ∧ Plain a2) := ⟨G3, hrow3.reads, r23, p2⟩
      have hnl : (ts.length : Int) ≤ 40 := by omega
      clear W2 HTB BY G2 r2 p2 row2 g3 hrow3 G3 r23 hzl hTl hT hb3 hlong
      generalize hkt : ts.length = kt at *
      generalize ys.length = ky at *
      generalize (textB ts).length = kT at *
      go_wp2_with fail
      refine (sameT (some ⟨g3', 0, none⟩) a2 kt cp3 c2 ts u3 HRW.out.2.1 HRW.out.2.2.1 (.inr ⟨_, _, rfl⟩) HRW.out.2.2.2).mono ?_
      rintro e u4 ⟨rfl, rfl⟩
      have HG : Hid (w.grownBy u4 none) := HRW.out.1
      clear HRW
      simp only []
      go_wp2_with fail
      go_meet
      exact ⟨rfl, HG⟩
  case rest =>
  obtain ⟨rfl, HG⟩ := hcut
  clear W2 HTB BY G2 r2 p2 row2 g3 hans G3 r23 hzl hTl
  generalize ts.length = kt at *
  generalize ys.length = ky at *
  generalize (textB ts).length = kT at *
  go_wp2_with fail
  refine (drawGetTextT a0 n0 cap0 zs wc (HR.out.1.none HG.out) HR.out.2 hn0).mono ?_
  rintro e u5 ⟨v8, yz, x9, rfl, hyz, m8, hx9, g5⟩
  have hx92 := hx9.2
  rcases m8.shape with ⟨rfl, rfl⟩ | ⟨ga, ca, rfl, -, rowa, -⟩
  · have HG5 : Hid (w.grownBy u5 none) := grown_trans HG.out g5
    clear m8 g5 HG hx9
    simp only []
    go_wp2_with fail
    refine (implGetNil x9 u5 hx92).mono ?_
    rintro e u6 ⟨rfl, g6⟩
    have HG6 : Hid (w.grownBy u6 none) := grown_trans HG5.out g6
    clear HG5 g6
    have ga2 := World.grownBy_alloc u6 (.cells #[.int .u8 1, .int .u8 97] 5) none
    have ra2 : Row (u6.alloc (.cells #[.int .u8 1, .int .u8 97] 5)) u6.heap.size 2 [1, 97] := row_of (zs := [1, 97]) (heap_alloc_new u6 _) rfl
    have HA2 : Hid (u6.grownBy (u6.alloc (.cells #[.int .u8 1, .int .u8 97] 5)) none ∧ Row (u6.alloc (.cells #[.int .u8 1, .int .u8 97] 5)) u6.heap.size 2 [1, 97]) := ⟨ga2, ra2⟩
    clear ga2 ra2
    simp only []
    go_wp2_with fail
    refine (implGetC u6.heap.size 2 2 [1, 97] 0 _ HA2.out.2 rfl (fun z hz => by simp at hz; omega) (by omega) (Nat.le_refl _) (by omega)).mono ?_
    rintro e u7 ⟨v7, x7, rfl, g7, hans7⟩
    rw [oneA] at hans7
    obtain ⟨gq, cq, rfl, rfl, hbq, hrowq⟩ := hans7
    have g67 := grown_trans HA2.out.1 g7
    have HQ : Hid (Row u7 gq cq [97]) := hrowq
    have HG7 : Hid (w.grownBy u7 none) := grown_trans HG6.out g67
    clear HA2 HG6 g67 hrowq hbq g7
    simp only []
    go_wp2_with fail
    refine wp_region_held_drew (S := fun _ => True) (by kernel_rfl) trivial (fun hH => ?_)
    simp only [List.size_toArray, List.length_cons, List.length_nil, Nat.reduceAdd, Array.replicate, List.replicate]
    refine wpAnyH_take (i := 0) (v := ?_) rfl (by kernel_rfl) (by kernel_rfl) (by kernel_rfl) (fun _ _ _ h => h) (Or.inl ⟨by rfl, ?_⟩) hH ?_
    rotate_left
    · (intro v hS; go_simp; try with_reducible rfl)
    simp only [Act.put, List.setIfInBounds_toArray, List.set_cons_zero, List.set_cons_succ, List.getElem_toArray, List.getElem_cons_succ, List.getElem_cons_zero]
    refine wpAnyH_ready (rs := [1]) (by kernel_rfl) (by simp) ?_
    refine AllReadyH.cons rfl (fun K hK => ?_) AllReadyH.nil
    go_simp
    have gd : u7.grownBy (u7.alloc (.cells #[.int .u8 97] 5)).drew none := grown_trans (World.grownBy_alloc u7 (.cells #[.int .u8 97] 5) none) (grown_drewN _ 1 none)
    have rb : (u7.alloc (.cells #[.int .u8 97] 5)).drew.heap[u7.heap.size]? = some (.cells #[.int .u8 97] 5 (0, 0)) := heap_alloc_new u7 _
    have HD : Hid (u7.grownBy (u7.alloc (.cells #[.int .u8 97] 5)).drew none ∧ (u7.alloc (.cells #[.int .u8 97] 5)).drew.heap[u7.heap.size]? = some (.cells #[.int .u8 97] 5 (0, 0)) ∧ gq < u7.heap.size) := ⟨gd, rb, HQ.out.lt⟩
    clear gd rb
    refine hK.out _ _ trivial (fun _ => ?_)
    clear hK K
    simp only [Act.put, List.setIfInBounds_toArray, List.set_cons_zero, List.set_cons_succ, List.getElem_toArray, List.getElem_cons_succ, List.getElem_cons_zero]
    generalize (u7.alloc (.cells #[.int .u8 97] 5)).drew = u8 at *
    generalize hq8 : u7.heap.size = q8 at *
    obtain ⟨u8', hcv, kcv, ccv⟩ := conv22 q8 u8 HD.out.2.1
    have rq : Reads u8' (some ⟨q8, 0, none⟩) 1 [97] := by
      refine ⟨rfl, .inr ⟨q8, 0, rfl, fun i hi => ?_⟩⟩
      have h0 : i = 0 := by omega
      subst h0
      exact ccv
    have HD2 : Hid (u7.grownBy u8' none ∧ Reads u8' (some ⟨q8, 0, none⟩) 1 [97] ∧ Row u8' gq cq [97]) := ⟨grown_more HD.out.1 kcv (fun k hk => by cases hk; omega), rq, (HQ.out.kept HD.out.1 (by simp)).kept kcv (by have := HD.out.2.2; simp; omega)⟩
    clear rq
    clear kcv ccv HD
    refine wpAnyH_ready (rs := [2]) (by kernel_rfl) (by simp) ?_
    refine AllReadyH.cons rfl (fun K hK => ?_) AllReadyH.nil
    go_simp
    refine hK.out _ _ trivial (fun _ => ?_)
    clear hK K
    simp only [Act.put, List.setIfInBounds_toArray, List.set_cons_zero, List.set_cons_succ, List.getElem_toArray, List.getElem_cons_succ, List.getElem_cons_zero]
    clear hcv
    refine wpAnyH_ready (rs := [3]) (by kernel_rfl) (by simp) ?_
    refine AllReadyH.cons rfl (fun K hK => ?_) AllReadyH.nil
    go_simp
    refine (sameT (some ⟨gq, 0, none⟩) (some ⟨q8, 0, none⟩) 1 cq 1 [97] u8' HD2.out.2.2.reads HD2.out.2.1 (.inr ⟨_, _, rfl⟩) (.inr ⟨_, _, rfl⟩)).mono ?_
    rintro e u9 ⟨rfl, he9⟩
    have g79 : u7.grownBy u9 none := by rw [he9]; exact HD2.out.1
    clear HD2 HQ he9
    refine hK.out _ _ trivial (fun _ => ?_)
    clear hK K
    simp only [Act.put, List.setIfInBounds_toArray, List.set_cons_zero, List.set_cons_succ, List.getElem_toArray, List.getElem_cons_succ, List.getElem_cons_zero]
    have FIN : Hid (w.grownBy u9 none) := grown_trans HG7.out g79
    clear HG7 g79
    refine wpAnyH_take (i := 4) (v := ?_) rfl (by kernel_rfl) (by kernel_rfl) (by kernel_rfl) (fun _ _ _ h => h) (Or.inl ⟨by rfl, ?_⟩) hH ?_
    rotate_left
    · (intro v hS; go_simp; try with_reducible rfl)
    simp only [Act.put, List.setIfInBounds_toArray, List.set_cons_zero, List.set_cons_succ, List.getElem_toArray, List.getElem_cons_succ, List.getElem_cons_zero]
    refine wpAnyH_take (i := 5) (v := ?_) rfl (by kernel_rfl) (by kernel_rfl) (by kernel_rfl) (fun _ _ _ h => h) (Or.inl ⟨by rfl, ?_⟩) hH ?_
    rotate_left
    · (intro v hS; go_simp; try with_reducible rfl)
    simp only [Act.put, List.setIfInBounds_toArray, List.set_cons_zero, List.set_cons_succ, List.getElem_toArray, List.getElem_cons_succ, List.getElem_cons_zero]
    refine wpAnyH_take (i := 6) (v := ?_) rfl (by kernel_rfl) (by kernel_rfl) (by kernel_rfl) (fun _ _ _ h => h) (Or.inl ⟨by rfl, ?_⟩) hH ?_
    rotate_left
    · (intro v hS; go_simp; try with_reducible rfl)
    simp only [Act.put, List.setIfInBounds_toArray, List.set_cons_zero, List.set_cons_succ, List.getElem_toArray, List.getElem_cons_succ, List.getElem_cons_zero]
    refine wpAnyH_take (i := 7) (v := ?_) rfl (by kernel_rfl) (by kernel_rfl) (by kernel_rfl) (fun _ _ _ h => h) (Or.inl ⟨by rfl, ?_⟩) hH ?_
    rotate_left
    · (intro v hS; go_simp; try with_reducible rfl)
    simp only [Act.put, List.setIfInBounds_toArray, List.set_cons_zero, List.set_cons_succ, List.getElem_toArray, List.getElem_cons_succ, List.getElem_cons_zero]
    refine wpAnyH_take (i := 8) (v := undef) rfl (by kernel_rfl) (by kernel_rfl) (by kernel_rfl) (fun _ _ _ h => h) (Or.inr ⟨by rfl, rfl⟩) hH ?_
    simp only [Act.put, List.setIfInBounds_toArray, List.set_cons_zero, List.set_cons_succ, List.getElem_toArray, List.getElem_cons_succ, List.getElem_cons_zero]
    refine wpAnyH_take (i := 9) (v := undef) rfl (by kernel_rfl) (by kernel_rfl) (by kernel_rfl) (fun _ _ _ h => h) (Or.inr ⟨by rfl, rfl⟩) hH ?_
    simp only [Act.put, List.setIfInBounds_toArray, List.set_cons_zero, List.set_cons_succ, List.getElem_toArray, List.getElem_cons_succ, List.getElem_cons_zero]
    refine wpAnyH_take (i := 10) (v := undef) rfl (by kernel_rfl) (by kernel_rfl) (by kernel_rfl) (fun _ _ _ h => h) (Or.inr ⟨by rfl, rfl⟩) hH ?_
    simp only [Act.put, List.setIfInBounds_toArray, List.set_cons_zero, List.set_cons_succ, List.getElem_toArray, List.getElem_cons_succ, List.getElem_cons_zero]
    refine wpAnyH_take (i := 11) (v := undef) rfl (by kernel_rfl) (by kernel_rfl) (by kernel_rfl) (fun _ _ _ h => h) (Or.inr ⟨by rfl, rfl⟩) hH ?_
    simp only [Act.put, List.setIfInBounds_toArray, List.set_cons_zero, List.set_cons_succ, List.getElem_toArray, List.getElem_cons_succ, List.getElem_cons_zero]
    refine wpAnyH_take (i := 12) (v := undef) rfl (by kernel_rfl) (by kernel_rfl) (by kernel_rfl) (fun _ _ _ h => h) (Or.inr ⟨by rfl, rfl⟩) hH ?_
    simp only [Act.put, List.setIfInBounds_toArray, List.set_cons_zero, List.set_cons_succ, List.getElem_toArray, List.getElem_cons_succ, List.getElem_cons_zero]
    refine wpAnyH_take (i := 13) (v := undef) rfl (by kernel_rfl) (by kernel_rfl) (by kernel_rfl) (fun _ _ _ h => h) (Or.inr ⟨by rfl, rfl⟩) hH ?_
    simp only [Act.put, List.setIfInBounds_toArray, List.set_cons_zero, List.set_cons_succ, List.getElem_toArray, List.getElem_cons_succ, List.getElem_cons_zero]
    refine wpAnyH_take (i := 14) (v := undef) rfl (by kernel_rfl) (by kernel_rfl) (by kernel_rfl) (fun _ _ _ h => h) (Or.inr ⟨by rfl, rfl⟩) hH ?_
    simp only [Act.put, List.setIfInBounds_toArray, List.set_cons_zero, List.set_cons_succ, List.getElem_toArray, List.getElem_cons_succ, List.getElem_cons_zero]
    refine wpAnyH_take (i := 15) (v := undef) rfl (by kernel_rfl) (by kernel_rfl) (by kernel_rfl) (fun _ _ _ h => h) (Or.inr ⟨by rfl, rfl⟩) hH ?_
    simp only [Act.put, List.setIfInBounds_toArray, List.set_cons_zero, List.set_cons_succ, List.getElem_toArray, List.getElem_cons_succ, List.getElem_cons_zero]
    refine wpAnyH_take (i := 16) (v := undef) rfl (by kernel_rfl) (by kernel_rfl) (by kernel_rfl) (fun _ _ _ h => h) (Or.inr ⟨by rfl, rfl⟩) hH ?_
    simp only [Act.put, List.setIfInBounds_toArray, List.set_cons_zero, List.set_cons_succ, List.getElem_toArray, List.getElem_cons_succ, List.getElem_cons_zero]
    refine wpAnyH_take (i := 17) (v := ?_) rfl (by kernel_rfl) (by kernel_rfl) (by kernel_rfl) (fun _ _ _ h => h) (Or.inl ⟨by rfl, ?_⟩) hH ?_
    rotate_left
    · (intro v hS; go_simp; try with_reducible rfl)
    simp only [Act.put, List.setIfInBounds_toArray, List.set_cons_zero, List.set_cons_succ, List.getElem_toArray, List.getElem_cons_succ, List.getElem_cons_zero]
    refine wpAnyH_take (i := 18) (v := ?_) rfl (by kernel_rfl) (by kernel_rfl) (by kernel_rfl) (fun _ _ _ h => h) (Or.inl ⟨by rfl, ?_⟩) hH ?_
    rotate_left
    · (intro v hS; go_simp; try with_reducible rfl)
    simp only [Act.put, List.setIfInBounds_toArray, List.set_cons_zero, List.set_cons_succ, List.getElem_toArray, List.getElem_cons_succ, List.getElem_cons_zero]
    refine wpAnyH_take (i := 19) (v := ?_) rfl (by kernel_rfl) (by kernel_rfl) (by kernel_rfl) (fun _ _ _ h => h) (Or.inl ⟨by rfl, ?_⟩) hH ?_
    rotate_left
    · (intro v hS; go_simp; try with_reducible rfl)
    simp only [Act.put, List.setIfInBounds_toArray, List.set_cons_zero, List.set_cons_succ, List.getElem_toArray, List.getElem_cons_succ, List.getElem_cons_zero]
    refine wpAnyH_done (by kernel_rfl) ?_ _
    go_wp2
    go_ret
    exact ⟨rfl, FIN.out⟩
  · have hyb := m8.2
    have hya := rowa.len
    have HG5 : Hid (w.grownBy u5 none ∧ Row u5 ga ca yz ∧ Byt yz) := ⟨grown_trans HG.out g5, rowa, hyb⟩
    clear m8 g5 HG hx9 rowa hyb
    generalize hkz : yz.length = kz at *
    simp only []
    go_wp2_with fail
    refine (implGetC ga kz ca yz x9 u5 HG5.out.2.1 hkz HG5.out.2.2 (by omega) hya hx92).mono ?_
    rintro e u6 ⟨v6, x6, rfl, g6, hans6⟩
    cases hgt : getText yz x9 with
    | none =>
      rw [hgt] at hans6
      obtain ⟨rfl, rfl⟩ := hans6
      have HG6 : Hid (w.grownBy u6 none) := grown_trans HG5.out.1 g6
      clear HG5 g6 hgt
      have ga2 := World.grownBy_alloc u6 (.cells #[.int .u8 1, .int .u8 97] 5) none
      have ra2 : Row (u6.alloc (.cells #[.int .u8 1, .int .u8 97] 5)) u6.heap.size 2 [1, 97] := row_of (zs := [1, 97]) (heap_alloc_new u6 _) rfl
      have HA2 : Hid (u6.grownBy (u6.alloc (.cells #[.int .u8 1, .int .u8 97] 5)) none ∧ Row (u6.alloc (.cells #[.int .u8 1, .int .u8 97] 5)) u6.heap.size 2 [1, 97]) := ⟨ga2, ra2⟩
      clear ga2 ra2
      simp only []
      go_wp2_with fail
      refine (implGetC u6.heap.size 2 2 [1, 97] 0 _ HA2.out.2 rfl (fun z hz => by simp at hz; omega) (by omega) (Nat.le_refl _) (by omega)).mono ?_
      rintro e u7 ⟨v7, x7, rfl, g7, hans7⟩
      rw [oneA] at hans7
      obtain ⟨gq, cq, rfl, rfl, hbq, hrowq⟩ := hans7
      have g67 := grown_trans HA2.out.1 g7
      have HQ : Hid (Row u7 gq cq [97]) := hrowq
      have HG7 : Hid (w.grownBy u7 none) := grown_trans HG6.out g67
      clear HA2 HG6 g67 hrowq hbq g7
      simp only []
      go_wp2_with fail
      refine wp_region_held_drew (S := fun _ => True) (by kernel_rfl) trivial (fun hH => ?_)
      simp only [List.size_toArray, List.length_cons, List.length_nil, Nat.reduceAdd, Array.replicate, List.replicate]
      refine wpAnyH_take (i := 0) (v := ?_) rfl (by kernel_rfl) (by kernel_rfl) (by kernel_rfl) (fun _ _ _ h => h) (Or.inl ⟨by rfl, ?_⟩) hH ?_
      rotate_left
      · (intro v hS; go_simp; try with_reducible rfl)
      simp only [Act.put, List.setIfInBounds_toArray, List.set_cons_zero, List.set_cons_succ, List.getElem_toArray, List.getElem_cons_succ, List.getElem_cons_zero]
      refine wpAnyH_ready (rs := [1]) (by kernel_rfl) (by simp) ?_
      refine AllReadyH.cons rfl (fun K hK => ?_) AllReadyH.nil
      go_simp
      have gd : u7.grownBy (u7.alloc (.cells #[.int .u8 97] 5)).drew none := grown_trans (World.grownBy_alloc u7 (.cells #[.int .u8 97] 5) none) (grown_drewN _ 1 none)
      have rb : (u7.alloc (.cells #[.int .u8 97] 5)).drew.heap[u7.heap.size]? = some (.cells #[.int .u8 97] 5 (0, 0)) := heap_alloc_new u7 _
      have HD : Hid (u7.grownBy (u7.alloc (.cells #[.int .u8 97] 5)).drew none ∧ (u7.alloc (.cells #[.int .u8 97] 5)).drew.heap[u7.heap.size]? = some (.cells #[.int .u8 97] 5 (0, 0)) ∧ gq < u7.heap.size) := ⟨gd, rb, HQ.out.lt⟩
      clear gd rb
      refine hK.out _ _ trivial (fun _ => ?_)
      clear hK K
      simp only [Act.put, List.setIfInBounds_toArray, List.set_cons_zero, List.set_cons_succ, List.getElem_toArray, List.getElem_cons_succ, List.getElem_cons_zero]
      generalize (u7.alloc (.cells #[.int .u8 97] 5)).drew = u8 at *
      generalize hq8 : u7.heap.size = q8 at *
      obtain ⟨u8', hcv, kcv, ccv⟩ := conv22 q8 u8 HD.out.2.1
      have rq : Reads u8' (some ⟨q8, 0, none⟩) 1 [97] := by
        refine ⟨rfl, .inr ⟨q8, 0, rfl, fun i hi => ?_⟩⟩
        have h0 : i = 0 := by omega
        subst h0
        exact ccv
      have HD2 : Hid (u7.grownBy u8' none ∧ Reads u8' (some ⟨q8, 0, none⟩) 1 [97] ∧ Row u8' gq cq [97]) := ⟨grown_more HD.out.1 kcv (fun k hk => by cases hk; omega), rq, (HQ.out.kept HD.out.1 (by simp)).kept kcv (by have := HD.out.2.2; simp; omega)⟩
      clear rq
      clear kcv ccv HD
      refine wpAnyH_ready (rs := [2]) (by kernel_rfl) (by simp) ?_
      refine AllReadyH.cons rfl (fun K hK => ?_) AllReadyH.nil
      go_simp
      refine hK.out _ _ trivial (fun _ => ?_)
      clear hK K
      simp only [Act.put, List.setIfInBounds_toArray, List.set_cons_zero, List.set_cons_succ, List.getElem_toArray, List.getElem_cons_succ, List.getElem_cons_zero]
      clear hcv
      refine wpAnyH_ready (rs := [3]) (by kernel_rfl) (by simp) ?_
      refine AllReadyH.cons rfl (fun K hK => ?_) AllReadyH.nil
      go_simp
      refine (sameT (some ⟨gq, 0, none⟩) (some ⟨q8, 0, none⟩) 1 cq 1 [97] u8' HD2.out.2.2.reads HD2.out.2.1 (.inr ⟨_, _, rfl⟩) (.inr ⟨_, _, rfl⟩)).mono ?_
      rintro e u9 ⟨rfl, he9⟩
      have g79 : u7.grownBy u9 none := by rw [he9]; exact HD2.out.1
      clear HD2 HQ he9
      refine hK.out _ _ trivial (fun _ => ?_)
      clear hK K
      simp only [Act.put, List.setIfInBounds_toArray, List.set_cons_zero, List.set_cons_succ, List.getElem_toArray, List.getElem_cons_succ, List.getElem_cons_zero]
      have FIN : Hid (w.grownBy u9 none) := grown_trans HG7.out g79
      clear HG7 g79
      refine wpAnyH_take (i := 4) (v := ?_) rfl (by kernel_rfl) (by kernel_rfl) (by kernel_rfl) (fun _ _ _ h => h) (Or.inl ⟨by rfl, ?_⟩) hH ?_
      rotate_left
      · (intro v hS; go_simp; try with_reducible rfl)
      simp only [Act.put, List.setIfInBounds_toArray, List.set_cons_zero, List.set_cons_succ, List.getElem_toArray, List.getElem_cons_succ, List.getElem_cons_zero]
      refine wpAnyH_take (i := 5) (v := ?_) rfl (by kernel_rfl) (by kernel_rfl) (by kernel_rfl) (fun _ _ _ h => h) (Or.inl ⟨by rfl, ?_⟩) hH ?_
      rotate_left
      · (intro v hS; go_simp; try with_reducible rfl)
      simp only [Act.put, List.setIfInBounds_toArray, List.set_cons_zero, List.set_cons_succ, List.getElem_toArray, List.getElem_cons_succ, List.getElem_cons_zero]
      refine wpAnyH_take (i := 6) (v := ?_) rfl (by kernel_rfl) (by kernel_rfl) (by kernel_rfl) (fun _ _ _ h => h) (Or.inl ⟨by rfl, ?_⟩) hH ?_
      rotate_left
      · (intro v hS; go_simp; try with_reducible rfl)
      simp only [Act.put, List.setIfInBounds_toArray, List.set_cons_zero, List.set_cons_succ, List.getElem_toArray, List.getElem_cons_succ, List.getElem_cons_zero]
      refine wpAnyH_take (i := 7) (v := ?_) rfl (by kernel_rfl) (by kernel_rfl) (by kernel_rfl) (fun _ _ _ h => h) (Or.inl ⟨by rfl, ?_⟩) hH ?_
      rotate_left
      · (intro v hS; go_simp; try with_reducible rfl)
      simp only [Act.put, List.setIfInBounds_toArray, List.set_cons_zero, List.set_cons_succ, List.getElem_toArray, List.getElem_cons_succ, List.getElem_cons_zero]
      refine wpAnyH_take (i := 8) (v := undef) rfl (by kernel_rfl) (by kernel_rfl) (by kernel_rfl) (fun _ _ _ h => h) (Or.inr ⟨by rfl, rfl⟩) hH ?_
      simp only [Act.put, List.setIfInBounds_toArray, List.set_cons_zero, List.set_cons_succ, List.getElem_toArray, List.getElem_cons_succ, List.getElem_cons_zero]
      refine wpAnyH_take (i := 9) (v := undef) rfl (by kernel_rfl) (by kernel_rfl) (by kernel_rfl) (fun _ _ _ h => h) (Or.inr ⟨by rfl, rfl⟩) hH ?_
      simp only [Act.put, List.setIfInBounds_toArray, List.set_cons_zero, List.set_cons_succ, List.getElem_toArray, List.getElem_cons_succ, List.getElem_cons_zero]
      refine wpAnyH_take (i := 10) (v := undef) rfl (by kernel_rfl) (by kernel_rfl) (by kernel_rfl) (fun _ _ _ h => h) (Or.inr ⟨by rfl, rfl⟩) hH ?_
      simp only [Act.put, List.setIfInBounds_toArray, List.set_cons_zero, List.set_cons_succ, List.getElem_toArray, List.getElem_cons_succ, List.getElem_cons_zero]
      refine wpAnyH_take (i := 11) (v := undef) rfl (by kernel_rfl) (by kernel_rfl) (by kernel_rfl) (fun _ _ _ h => h) (Or.inr ⟨by rfl, rfl⟩) hH ?_
      simp only [Act.put, List.setIfInBounds_toArray, List.set_cons_zero, List.set_cons_succ, List.getElem_toArray, List.getElem_cons_succ, List.getElem_cons_zero]
      refine wpAnyH_take (i := 12) (v := undef) rfl (by kernel_rfl) (by kernel_rfl) (by kernel_rfl) (fun _ _ _ h => h) (Or.inr ⟨by rfl, rfl⟩) hH ?_
      simp only [Act.put, List.setIfInBounds_toArray, List.set_cons_zero, List.set_cons_succ, List.getElem_toArray, List.getElem_cons_succ, List.getElem_cons_zero]
      refine wpAnyH_take (i := 13) (v := undef) rfl (by kernel_rfl) (by kernel_rfl) (by kernel_rfl) (fun _ _ _ h => h) (Or.inr ⟨by rfl, rfl⟩) hH ?_
      simp only [Act.put, List.setIfInBounds_toArray, List.set_cons_zero, List.set_cons_succ, List.getElem_toArray, List.getElem_cons_succ, List.getElem_cons_zero]
      refine wpAnyH_take (i := 14) (v := undef) rfl (by kernel_rfl) (by kernel_rfl) (by kernel_rfl) (fun _ _ _ h => h) (Or.inr ⟨by rfl, rfl⟩) hH ?_
      simp only [Act.put, List.setIfInBounds_toArray, List.set_cons_zero, List.set_cons_succ, List.getElem_toArray, List.getElem_cons_succ, List.getElem_cons_zero]
      refine wpAnyH_take (i := 15) (v := undef) rfl (by kernel_rfl) (by kernel_rfl) (by kernel_rfl) (fun _ _ _ h => h) (Or.inr ⟨by rfl, rfl⟩) hH ?_
      simp only [Act.put, List.setIfInBounds_toArray, List.set_cons_zero, List.set_cons_succ, List.getElem_toArray, List.getElem_cons_succ, List.getElem_cons_zero]
      refine wpAnyH_take (i := 16) (v := undef) rfl (by kernel_rfl) (by kernel_rfl) (by kernel_rfl) (fun _ _ _ h => h) (Or.inr ⟨by rfl, rfl⟩) hH ?_
      simp only [Act.put, List.setIfInBounds_toArray, List.set_cons_zero, List.set_cons_succ, List.getElem_toArray, List.getElem_cons_succ, List.getElem_cons_zero]
      refine wpAnyH_take (i := 17) (v := ?_) rfl (by kernel_rfl) (by kernel_rfl) (by kernel_rfl) (fun _ _ _ h => h) (Or.inl ⟨by rfl, ?_⟩) hH ?_
      rotate_left
      · (intro v hS; go_simp; try with_reducible rfl)
      simp only [Act.put, List.setIfInBounds_toArray, List.set_cons_zero, List.set_cons_succ, List.getElem_toArray, List.getElem_cons_succ, List.getElem_cons_zero]
      refine wpAnyH_take (i := 18) (v := ?_) rfl (by kernel_rfl) (by kernel_rfl) (by kernel_rfl) (fun _ _ _ h => h) (Or.inl ⟨by rfl, ?_⟩) hH ?_
      rotate_left
      · (intro v hS; go_simp; try with_reducible rfl)
      simp only [Act.put, List.setIfInBounds_toArray, List.set_cons_zero, List.set_cons_succ, List.getElem_toArray, List.getElem_cons_succ, List.getElem_cons_zero]
      refine wpAnyH_take (i := 19) (v := ?_) rfl (by kernel_rfl) (by kernel_rfl) (by kernel_rfl) (fun _ _ _ h => h) (Or.inl ⟨by rfl, ?_⟩) hH ?_
      rotate_left
      · (intro v hS; go_simp; try with_reducible rfl)
      simp only [Act.put, List.setIfInBounds_toArray, List.set_cons_zero, List.set_cons_succ, List.getElem_toArray, List.getElem_cons_succ, List.getElem_cons_zero]
      refine wpAnyH_done (by kernel_rfl) ?_ _
      go_wp2
      go_ret
      exact ⟨rfl, FIN.out⟩
    | some ue =>
      obtain ⟨tu, E⟩ := ue
      rw [hgt] at hans6
      obtain ⟨gu, cu, rfl, rfl, hbu, hrowu⟩ := hans6
      obtain ⟨P, E', rfl, rfl, hPE, hEl, hu40, hcut2⟩ := textJust yz HG5.out.2.2 x9 tu x6 hgt
      have hlE : (yz.take E').length = E' := by simp; omega
      have hlP : (yz.take P).length = P := by simp; omega
      obtain ⟨kT2, hkT2⟩ : ∃ kT2, (textB tu).length = kT2 := ⟨_, rfl⟩
      have hEE : E' = P + kT2 := by rw [hcut2, List.length_append, hlP, hkT2] at hlE; exact hlE.symm
      have HG6 : Hid (w.grownBy u6 none ∧ Row u6 ga ca yz ∧ Row u6 gu cu tu ∧ yz.take E' = yz.take P ++ textB tu ∧ (yz.take E').length = E' ∧ (yz.take P).length = P ∧ (textB tu).length = kT2) := ⟨grown_trans HG5.out.1 g6, HG5.out.2.1.kept g6 (by simp), hrowu, hcut2, hlE, hlP, hkT2⟩
      have HEE : Hid (E' = P + kT2) := hEE
      clear HG5 g6 hgt hrowu hcut2 hlE hlP hbu hkT2 hEE
      have ga2 := World.grownBy_alloc u6 (.cells #[.int .u8 1, .int .u8 97] 5) none
      have ra2 : Row (u6.alloc (.cells #[.int .u8 1, .int .u8 97] 5)) u6.heap.size 2 [1, 97] := row_of (zs := [1, 97]) (heap_alloc_new u6 _) rfl
      have HA2 : Hid (u6.grownBy (u6.alloc (.cells #[.int .u8 1, .int .u8 97] 5)) none ∧ Row (u6.alloc (.cells #[.int .u8 1, .int .u8 97] 5)) u6.heap.size 2 [1, 97]) := ⟨ga2, ra2⟩
      clear ga2 ra2
      simp only []
      go_wp2_with fail
      refine (implGetC u6.heap.size 2 2 [1, 97] 0 _ HA2.out.2 rfl (fun z hz => by simp at hz; omega) (by omega) (Nat.le_refl _) (by omega)).mono ?_
      rintro e u7 ⟨v7, x7, rfl, g7, hans7⟩
      rw [oneA] at hans7
      obtain ⟨gq, cq, rfl, rfl, hbq, hrowq⟩ := hans7
      have g67 := grown_trans HA2.out.1 g7
      have HQ : Hid (Row u7 gq cq [97]) := hrowq
      have HG7 : Hid (w.grownBy u7 none ∧ Row u7 ga ca yz ∧ Row u7 gu cu tu ∧ yz.take E' = yz.take P ++ textB tu ∧ (yz.take E').length = E' ∧ (yz.take P).length = P ∧ (textB tu).length = kT2) := ⟨grown_trans HG6.out.1 g67, HG6.out.2.1.kept g67 (by simp), HG6.out.2.2.1.kept g67 (by simp), HG6.out.2.2.2⟩
      have hEc : (E' : Int) ≤ (ca : Int) := by omega
      have hPc : (P : Int) ≤ (ca : Int) := by omega
      have hEn : ¬ ((E' : Int) < 0) := by omega
      have HU40 : Hid (tu.length ≤ 40 ∧ P ≤ 100) := ⟨by omega, by omega⟩
      clear HA2 HG6 g67 hrowq hbq g7 hu40
      generalize hku : tu.length = ku at *
      simp only []
      go_wp2_with fail
      refine wp_region_held_drew (S := fun _ => True) (by kernel_rfl) trivial (fun hH => ?_)
      simp only [List.size_toArray, List.length_cons, List.length_nil, Nat.reduceAdd, Array.replicate, List.replicate]
      refine wpAnyH_take (i := 0) (v := ?_) rfl (by kernel_rfl) (by kernel_rfl) (by kernel_rfl) (fun _ _ _ h => h) (Or.inl ⟨by rfl, ?_⟩) hH ?_
      rotate_left
      · (intro v hS; go_simp; try with_reducible rfl)
      simp only [Act.put, List.setIfInBounds_toArray, List.set_cons_zero, List.set_cons_succ, List.getElem_toArray, List.getElem_cons_succ, List.getElem_cons_zero]
      refine wpAnyH_ready (rs := [1]) (by kernel_rfl) (by simp) ?_
      refine AllReadyH.cons rfl (fun K hK => ?_) AllReadyH.nil
      go_simp
      have gd : u7.grownBy (u7.alloc (.cells #[.int .u8 97] 5)).drew none := grown_trans (World.grownBy_alloc u7 (.cells #[.int .u8 97] 5) none) (grown_drewN _ 1 none)
      have rb : (u7.alloc (.cells #[.int .u8 97] 5)).drew.heap[u7.heap.size]? = some (.cells #[.int .u8 97] 5 (0, 0)) := heap_alloc_new u7 _
      have HD : Hid (u7.grownBy (u7.alloc (.cells #[.int .u8 97] 5)).drew none ∧ (u7.alloc (.cells #[.int .u8 97] 5)).drew.heap[u7.heap.size]? = some (.cells #[.int .u8 97] 5 (0, 0)) ∧ gq < u7.heap.size) := ⟨gd, rb, HQ.out.lt⟩
      clear gd rb
      refine hK.out _ _ trivial (fun _ => ?_)
      clear hK K
      simp only [Act.put, List.setIfInBounds_toArray, List.set_cons_zero, List.set_cons_succ, List.getElem_toArray, List.getElem_cons_succ, List.getElem_cons_zero]
      generalize (u7.alloc (.cells #[.int .u8 97] 5)).drew = u8 at *
      generalize hq8 : u7.heap.size = q8 at *
      obtain ⟨u8', hcv, kcv, ccv⟩ := conv22 q8 u8 HD.out.2.1
      have rq : Reads u8' (some ⟨q8, 0, none⟩) 1 [97] := by
        refine ⟨rfl, .inr ⟨q8, 0, rfl, fun i hi => ?_⟩⟩
        have h0 : i = 0 := by omega
        subst h0
        exact ccv
      have HD2 : Hid (u7.grownBy u8' none ∧ Reads u8' (some ⟨q8, 0, none⟩) 1 [97] ∧ Row u8' gq cq [97]) := ⟨grown_more HD.out.1 kcv (fun k hk => by cases hk; omega), rq, (HQ.out.kept HD.out.1 (by simp)).kept kcv (by have := HD.out.2.2; simp; omega)⟩
      clear rq
      clear kcv ccv HD
      refine wpAnyH_ready (rs := [2]) (by kernel_rfl) (by simp) ?_
      refine AllReadyH.cons rfl (fun K hK => ?_) AllReadyH.nil
      go_simp
      refine hK.out _ _ trivial (fun _ => ?_)
      clear hK K
      simp only [Act.put, List.setIfInBounds_toArray, List.set_cons_zero, List.set_cons_succ, List.getElem_toArray, List.getElem_cons_succ, List.getElem_cons_zero]
      clear hcv
      refine wpAnyH_ready (rs := [3]) (by kernel_rfl) (by simp) ?_
      refine AllReadyH.cons rfl (fun K hK => ?_) AllReadyH.nil
      go_simp
      refine (sameT (some ⟨gq, 0, none⟩) (some ⟨q8, 0, none⟩) 1 cq 1 [97] u8' HD2.out.2.2.reads HD2.out.2.1 (.inr ⟨_, _, rfl⟩) (.inr ⟨_, _, rfl⟩)).mono ?_
      rintro e u9 ⟨rfl, he9⟩
      have g79 : u7.grownBy u9 none := by rw [he9]; exact HD2.out.1
      clear HD2 HQ he9
      refine hK.out _ _ trivial (fun _ => ?_)
      clear hK K
      simp only [Act.put, List.setIfInBounds_toArray, List.set_cons_zero, List.set_cons_succ, List.getElem_toArray, List.getElem_cons_succ, List.getElem_cons_zero]
      have HG9 : Hid (w.grownBy u9 none ∧ Row u9 ga ca yz ∧ Row u9 gu cu tu ∧ yz.take E' = yz.take P ++ textB tu ∧ (yz.take E').length = E' ∧ (yz.take P).length = P ∧ (textB tu).length = kT2) := ⟨grown_trans HG7.out.1 g79, HG7.out.2.1.kept g79 (by simp), HG7.out.2.2.1.kept g79 (by simp), HG7.out.2.2.2⟩
      clear HG7 g79
      refine wpAnyH_take (i := 4) (v := ?_) rfl (by kernel_rfl) (by kernel_rfl) (by kernel_rfl) (fun _ _ _ h => h) (Or.inl ⟨by rfl, ?_⟩) hH ?_
      rotate_left
      · (intro v hS; go_simp; try with_reducible rfl)
      simp only [Act.put, List.setIfInBounds_toArray, List.set_cons_zero, List.set_cons_succ, List.getElem_toArray, List.getElem_cons_succ, List.getElem_cons_zero]
      refine wpAnyH_take (i := 5) (v := ?_) rfl (by kernel_rfl) (by kernel_rfl) (by kernel_rfl) (fun _ _ _ h => h) (Or.inl ⟨by rfl, ?_⟩) hH ?_
      rotate_left
      · (intro v hS; go_simp; try with_reducible rfl)
      simp only [Act.put, List.setIfInBounds_toArray, List.set_cons_zero, List.set_cons_succ, List.getElem_toArray, List.getElem_cons_succ, List.getElem_cons_zero]
      refine wpAnyH_take (i := 6) (v := ?_) rfl (by kernel_rfl) (by kernel_rfl) (by kernel_rfl) (fun _ _ _ h => h) (Or.inl ⟨by rfl, ?_⟩) hH ?_
      rotate_left
      · (intro v hS; go_simp; try with_reducible rfl)
      simp only [Act.put, List.setIfInBounds_toArray, List.set_cons_zero, List.set_cons_succ, List.getElem_toArray, List.getElem_cons_succ, List.getElem_cons_zero]
      refine wpAnyH_take (i := 7) (v := ?_) rfl (by kernel_rfl) (by kernel_rfl) (by kernel_rfl) (fun _ _ _ h => h) (Or.inl ⟨by rfl, ?_⟩) hH ?_
      rotate_left
      · (intro v hS; go_simp; try with_reducible rfl)
      simp only [Act.put, List.setIfInBounds_toArray, List.set_cons_zero, List.set_cons_succ, List.getElem_toArray, List.getElem_cons_succ, List.getElem_cons_zero]
      refine wpAnyH_take (i := 8) (v := ?_) rfl (by kernel_rfl) (by kernel_rfl) (by kernel_rfl) (fun _ _ _ h => h) (Or.inl ⟨by rfl, ?_⟩) hH ?_
      rotate_left
      · (intro v hS; go_simp; try with_reducible rfl)
      simp only [Act.put, List.setIfInBounds_toArray, List.set_cons_zero, List.set_cons_succ, List.getElem_toArray, List.getElem_cons_succ, List.getElem_cons_zero]
      refine wpAnyH_take (i := 9) (v := ?_) rfl (by kernel_rfl) (by kernel_rfl) (by kernel_rfl) (fun _ _ _ h => h) (Or.inl ⟨by rfl, ?_⟩) hH ?_
      rotate_left
      · (intro v hS; go_simp; try with_reducible rfl)
      simp only [Act.put, List.setIfInBounds_toArray, List.set_cons_zero, List.set_cons_succ, List.getElem_toArray, List.getElem_cons_succ, List.getElem_cons_zero]
      refine wpAnyH_take (i := 10) (v := ?_) rfl (by kernel_rfl) (by kernel_rfl) (by kernel_rfl) (fun _ _ _ h => h) (Or.inl ⟨by rfl, ?_⟩) hH ?_
      rotate_left
      · (intro v hS; go_simp; try with_reducible rfl)
      simp only [Act.put, List.setIfInBounds_toArray, List.set_cons_zero, List.set_cons_succ, List.getElem_toArray, List.getElem_cons_succ, List.getElem_cons_zero]
      refine wpAnyH_take (i := 11) (v := ?_) rfl (by kernel_rfl) (by kernel_rfl) (by kernel_rfl) (fun _ _ _ h => h) (Or.inl ⟨by rfl, ?_⟩) hH ?_
      rotate_left
      · (intro v hS; go_simp; try with_reducible rfl)
      simp only [Act.put, List.setIfInBounds_toArray, List.set_cons_zero, List.set_cons_succ, List.getElem_toArray, List.getElem_cons_succ, List.getElem_cons_zero]
      refine wpAnyH_take (i := 13) (v := ?_) rfl (by kernel_rfl) (by kernel_rfl) (by kernel_rfl) (fun _ _ _ h => h) (Or.inl ⟨by rfl, ?_⟩) hH ?_
      rotate_left
      · (intro v hS; go_simp; try with_reducible rfl)
      simp only [Act.put, List.setIfInBounds_toArray, List.set_cons_zero, List.set_cons_succ, List.getElem_toArray, List.getElem_cons_succ, List.getElem_cons_zero]
      refine wpAnyH_take (i := 14) (v := ?_) rfl (by kernel_rfl) (by kernel_rfl) (by kernel_rfl) (fun _ _ _ h => h) (Or.inl ⟨by rfl, ?_⟩) hH ?_
      rotate_left
      · (intro v hS; go_simp; try with_reducible rfl)
      simp only [Act.put, List.setIfInBounds_toArray, List.set_cons_zero, List.set_cons_succ, List.getElem_toArray, List.getElem_cons_succ, List.getElem_cons_zero]
      refine wpAnyH_take (i := 15) (v := ?_) rfl (by kernel_rfl) (by kernel_rfl) (by kernel_rfl) (fun _ _ _ h => h) (Or.inl ⟨by rfl, ?_⟩) hH ?_
      rotate_left
      · (intro v hS; go_simp; try with_reducible rfl)
      simp only [Act.put, List.setIfInBounds_toArray, List.set_cons_zero, List.set_cons_succ, List.getElem_toArray, List.getElem_cons_succ, List.getElem_cons_zero]
      refine wpAnyH_ready (rs := [12]) (by kernel_rfl) (by simp) ?_
      refine AllReadyH.cons rfl (fun K hK => ?_) AllReadyH.nil
      go_simp
      obtain ⟨G9, ra9, ru9, ct, l1, l2, l3⟩ := HG9.out
      refine (implTxt (some ⟨ga, 0, none⟩) (some ⟨gu, 0, none⟩) P ku ca cu (yz.take P) tu u9 ((ra9.take P).reads' l2) (ru9.reads' hku) (by have := HU40.out; omega) (by have := HU40.out; omega)).mono ?_
      rintro e u10 ⟨gz, rfl, g10, hbz, rowz⟩
      rw [l3]
      have HG10 : Hid (w.grownBy u10 none ∧ Reads u10 (some ⟨ga, 0, none⟩) E' (yz.take E') ∧ Reads u10 (some ⟨gz, 0, none⟩) E' (yz.take E')) := ⟨grown_trans G9 g10, ((ra9.take E').kept g10 (by simp)).reads' l1, by rw [ct] at l1 ⊢; exact rowz.reads' l1⟩
      clear HG9 G9 ra9 ru9 ct l1 l2 l3 g10 hbz rowz
      refine hK.out _ _ trivial (fun _ => ?_)
      clear hK K
      simp only [Act.put, List.setIfInBounds_toArray, List.set_cons_zero, List.set_cons_succ, List.getElem_toArray, List.getElem_cons_succ, List.getElem_cons_zero]
      refine wpAnyH_ready (rs := [16]) (by kernel_rfl) (by simp) ?_
      refine AllReadyH.cons rfl (fun K hK => ?_) AllReadyH.nil
      go_simp
      obtain ⟨G10, q1, q2⟩ := HG10.out
      rw [← HEE.out]
      refine (sameT (some ⟨gz, 0, none⟩) (some ⟨ga, 0, none⟩) E' E' ca (yz.take E') u10 q2 q1 (.inr ⟨_, _, rfl⟩) (.inr ⟨_, _, rfl⟩)).mono ?_
      rintro e u11 ⟨rfl, he11⟩
      have FIN : Hid (w.grownBy u11 none) := by show w.grownBy u11 none; rw [he11]; exact G10
      clear HG10 G10 q1 q2 he11
      refine hK.out _ _ trivial (fun _ => ?_)
      clear hK K
      simp only [Act.put, List.setIfInBounds_toArray, List.set_cons_zero, List.set_cons_succ, List.getElem_toArray, List.getElem_cons_succ, List.getElem_cons_zero]
      refine wpAnyH_take (i := 17) (v := ?_) rfl (by kernel_rfl) (by kernel_rfl) (by kernel_rfl) (fun _ _ _ h => h) (Or.inl ⟨by rfl, ?_⟩) hH ?_
      rotate_left
      · (intro v hS; go_simp; try with_reducible rfl)
      simp only [Act.put, List.setIfInBounds_toArray, List.set_cons_zero, List.set_cons_succ, List.getElem_toArray, List.getElem_cons_succ, List.getElem_cons_zero]
      refine wpAnyH_take (i := 18) (v := ?_) rfl (by kernel_rfl) (by kernel_rfl) (by kernel_rfl) (fun _ _ _ h => h) (Or.inl ⟨by rfl, ?_⟩) hH ?_
      rotate_left
      · (intro v hS; go_simp; try with_reducible rfl)
      simp only [Act.put, List.setIfInBounds_toArray, List.set_cons_zero, List.set_cons_succ, List.getElem_toArray, List.getElem_cons_succ, List.getElem_cons_zero]
      refine wpAnyH_take (i := 19) (v := ?_) rfl (by kernel_rfl) (by kernel_rfl) (by kernel_rfl) (fun _ _ _ h => h) (Or.inl ⟨by rfl, ?_⟩) hH ?_
      rotate_left
      · (intro v hS; go_simp; try with_reducible rfl)
      simp only [Act.put, List.setIfInBounds_toArray, List.set_cons_zero, List.set_cons_succ, List.getElem_toArray, List.getElem_cons_succ, List.getElem_cons_zero]
      refine wpAnyH_done (by kernel_rfl) ?_ _
      go_wp2
      go_ret
      exact ⟨rfl, FIN.out⟩
end Go.Proofs.Ytonmcndedbmbfaa.By
