/-
  The walk of laws.FnUnify. No statement is proved here.
-/
import Derived.Test.YtmlganaiajhjeaaUFmAlso
import Derived.Test.YtmlganaiajhjeaaUDd
import Derived.Test.YtmlganaiajhjeaaShelfAlso
import Derived.Test.YtmlganaiajhjeaaTSa
namespace Go.Proofs.Ytmlganaiajhjeaa.By
open Go.RowKit
set_option linter.unusedVariables false
set_option linter.unusedSimpArgs false

theorem eqV_self (k n : Int) (d : F) : eqV k n d k n d = true := by
  have hB : ∀ f : F, eqB f f = true := by
    intro f
    induction f with
    | nil => rfl
    | cons k n d r ihd ihr => simp [eqB, ihd, ihr]
  simp [eqV, hB]



set_option maxRecDepth 8000 in
set_option maxHeartbeats 8000000 in
theorem lawFnUnify (a : Option Addr) (n cap : Nat) (zs : List Int) (hz : Byt zs) (w : World) (hr : Reads w a n zs) (hn : n ≤ 9223372036854775807) :
    Calls Try.prog 4 #[.slice a n cap] w fun e u => e = .returned (.bool true) ∧ w.grownBy u none := by
  have C0 : Hid _ := drawUnifyT a n cap zs w hr hz hn
  clear hr hz hn
  go_enter Try.func4, Try.ntmps4
  go_wp2_with fail
  refine Calls.mono C0.out ?_
  rintro e v1 ⟨f, L, av, cv, s, t, he, hg, hB, hS, hT, hV, hwL, haL, hcase⟩
  subst he
  obtain ⟨b0, b1, bsz⟩ := alloc2_blocks v1 (.cells #[.int .i64 s.k, .int .i64 s.m, .slice s.a s.l s.c] 25) (.cells #[.int .i64 t.k, .int .i64 t.m, .slice t.a t.l t.c] 25)
  have g0 := grown_alloc (grown_alloc (World.grownBy.refl v1 none) (.cells #[.int .i64 s.k, .int .i64 s.m, .slice s.a s.l s.c] 25)) (.cells #[.int .i64 t.k, .int .i64 t.m, .slice t.a t.l t.c] 25)
  have LV : Hid (w.grownBy _ none ∧ _ = some (Obj.cells #[.int .i64 s.k, .int .i64 s.m, .slice s.a s.l s.c] 25) ∧ _ = some (Obj.cells #[.int .i64 t.k, .int .i64 t.m, .slice t.a t.l t.c] 25) ∧ SlBD _ 25 44 av f.len f ∧ SlD _ 25 s.a s.l s.f ∧ SlD _ 25 t.a t.l t.f) := ⟨grown_trans hg g0, b0, b1, hB.none g0, hS.typed.none g0, hT.typed.none g0⟩
  have HV : Hid (allB V5 L ∧ (f = L ∨ ∃ v k m d, f = L.app (.cons v k m d .nil)) ∧ ∀ x ∈ vT s.k s.m s.f, V5 x) := ⟨haL, hcase, hV⟩
  clear C0 hg hB hS hT hV hwL haL hcase b0 b1 bsz g0
  simp only []
  go_upto_region 2 with fail
  generalize (v1.alloc (.cells #[.int .i64 s.k, .int .i64 s.m, .slice s.a s.l s.c] 25)).alloc (.cells #[.int .i64 t.k, .int .i64 t.m, .slice t.a t.l t.c] 25) = v2 at *
  generalize v1.heap.size = q4 at *
  have CU : Hid _ := implUnifyT f av f.len cv s.f t.f s.k s.m t.k t.m s.a t.a s.l s.c t.l t.c v2 LV.out.2.2.2.1 LV.out.2.2.2.2.1 LV.out.2.2.2.2.2
  obtain ⟨⟨y0, y1, y2⟩, -⟩ := three LV.out.2.1
  obtain ⟨⟨z0, z1, z2⟩, -⟩ := three LV.out.2.2.1
  go_wp2_with fail
  refine Calls.mono CU.out ?_
  rintro e v3 ⟨hg, he⟩
  cases hR : uniV f (s.k, s.m, s.f) (t.k, t.m, t.f) with
  | none =>
    rw [hR] at he
    simp only [] at he
    subst he
    have CX : Hid _ := implBindsOkT .nil none 0 0 v3 ⟨rfl, by omega, .inl rfl⟩
    have GG : Hid (w.grownBy v3 none) := grown_trans LV.out.1 hg
    have eb : bindsV .nil = true := rfl
    rw [eb] at CX
    clear CU LV HV hg hR eb y0 y1 y2 z0 z1 z2
    go_wp2_with fail
    refine Calls.mono CX.out ?_
    rintro e u ⟨he, hg2⟩
    subst he
    have GF : Hid (w.grownBy u none) := grown_trans GG.out hg2
    clear CX GG hg2
    simp only []
    go_wp2
    go_ret
    exact ⟨rfl, GF.out⟩
  | some L' =>
    rw [hR] at he
    obtain ⟨a6, c6, bs6, he, hN6, hna⟩ := he
    subst he
    have hlen := uniV_count hR HV.out.1 HV.out.2.1 HV.out.2.2
    obtain ⟨f1, f2, f3, f4, f5, f6, M, hM⟩ := uniV_facts hR hlen
    have HF : Hid _ := And.intro f1 (And.intro f2 (And.intro f3 (And.intro f4 (And.intro f5 f6))))
    have hML : f.len ≤ L'.len := by rw [hM, B.app_len]; omega
    have FT : Hid (∀ u, v3.grownBy u none → u.heap[q4]? = some (Obj.cells #[.int .i64 s.k, .int .i64 s.m, .slice s.a s.l s.c] 25) ∧ u.heap[q4 + 1]? = some (Obj.cells #[.int .i64 t.k, .int .i64 t.m, .slice t.a t.l t.c] 25) ∧ SlBD u 25 44 a6 L'.len L' ∧ SlBD u 25 44 av f.len f ∧ SlD u 25 s.a s.l s.f ∧ SlD u 25 t.a t.l t.f ∧ w.grownBy u none) := fun u hu => by
      have hh := grown_trans hg hu
      exact ⟨(hh.block _ (lt_of_block LV.out.2.1) (by simp)).trans LV.out.2.1, (hh.block _ (lt_of_block LV.out.2.2.1) (by simp)).trans LV.out.2.2.1, hN6.1.typed.none hu, LV.out.2.2.2.1.none hh, LV.out.2.2.2.2.1.none hh, LV.out.2.2.2.2.2.none hh, grown_trans LV.out.1 hh⟩
    have CX : Hid _ := implBindsOkT L' a6 L'.len c6 v3 hN6.1.typed
    rw [f1] at CX
    have HM : Hid (L' = f.app M) := hM
    clear CU LV HV hg hR y0 y1 y2 z0 z1 z2 hN6 hna f1 f2 f3 f4 f5 f6 hM hlen
    simp only []
    have hmb : decide (L'.len < f.len) = false := by simp; omega
    have hmi : decide ((L'.len : Int) < (f.len : Int)) = false := by simp; omega
    go_wp2_with fail
    refine Calls.mono CX.out ?_
    rintro e v4 ⟨he, hg2⟩
    subst he
    have H0 : Hid (v3.grownBy v4 none) := hg2
    clear CX hg2
    simp only []
    go_wp2
    go_loopw [8] (fun i wr => ∃ (j : Nat) (P R : B), j ≤ f.len ∧ i = .int .i64 j ∧ P.len = j ∧ Hid (f = P.app R ∧ v3.grownBy wr none)) (fun i _ => f.len - (intOf i).toNat)
    case atStart => exact ⟨0, .nil, f, Nat.zero_le _, rfl, rfl, rfl, H0.out⟩
    case round =>
      clear H0
      obtain ⟨j, P, R, hj, rfl, hPl, HI⟩ := hrel
      by_cases hlt : j < f.len
      · have hlt' : (j : Int) < (f.len : Int) := by omega
        have hltL : (j : Int) < (L'.len : Int) := by omega
        have hRl : R.len = f.len - j - 1 + 1 := by have := B.app_len P R; rw [← HI.out.1] at this; omega
        obtain ⟨v, k, m, d, R', rfl⟩ : ∃ v k m d R', R = .cons v k m d R' := by
          cases R with
          | nil => simp [B.len] at hRl
          | cons v k m d R' => exact ⟨v, k, m, d, R', rfl⟩
        obtain ⟨-, hf1, hf2⟩ := (FT.out wr HI.out.2).2.2.2.1
        obtain ⟨-, hl1, hl2⟩ := (FT.out wr HI.out.2).2.2.1
        rcases hf2 with hf2 | ⟨bf, of', hfa, -, hf2⟩
        · omega
        rcases hl2 with hl2 | ⟨bl, ol, hla, -, hl2⟩
        · omega
        have E1 := HI.out.1
        have E2 := HM.out
        rw [E1] at hf2
        rw [E2, E1, B.app_assoc] at hl2
        have hf3 := hf2.snd
        have hl3 := hl2.snd
        rw [hPl] at hf3 hl3
        obtain ⟨⟨a1, l1, c1, hq1, hd1⟩, -⟩ := hf3
        obtain ⟨⟨a2, l2, c2, hq2, hd2⟩, -⟩ := hl3
        have HP : Hid (f = (P.app (.cons v k m d .nil)).app R' ∧ SlD wr 25 a1 l1 d ∧ SlD wr 25 a2 l2 d ∧ Qua bf (of' + j * 4) (.int .i64 v) (.int .i64 k) (.int .i64 m) (.slice a1 l1 c1) wr ∧ Qua bl (ol + j * 4) (.int .i64 v) (.int .i64 k) (.int .i64 m) (.slice a2 l2 c2) wr ∧ v3.grownBy wr none ∧ L'.len ≤ 9223372036854775807) := ⟨by rw [B.app_assoc]; exact E1, hd1, hd2, hq1, hq2, HI.out.2, hl1⟩
        subst hfa hla
        clear hf2 hl2 hq1 hq2 hd1 hd2 E1 E2 HI hRl
        go_wp2_with fail
        have hdr := grown_drew (World.grownBy.refl wr none)
        have HQ : Hid (SlD wr.drew 25 a1 l1 d ∧ SlD wr.drew 25 a2 l2 d ∧ v3.grownBy wr.drew none) := ⟨HP.out.2.1.none hdr, HP.out.2.2.1.none hdr, grown_trans HP.out.2.2.2.2.2.1 hdr⟩
        have hQ1 : ∀ u, wr.grownBy u none → Qua bl (ol + j * 4) (.int .i64 v) (.int .i64 k) (.int .i64 m) (.slice a2 l2 c2) u ∧ Qua bf (of' + j * 4) (.int .i64 v) (.int .i64 k) (.int .i64 m) (.slice a1 l1 c1) u := fun u hu => by
          obtain ⟨⟨p0, p1, p2, p3⟩, ⟨p4, p5, p6, p7⟩⟩ := And.intro HP.out.2.2.2.1 HP.out.2.2.2.2.1
          exact ⟨⟨hu.cell p4 (by simp), hu.cell p5 (by simp), hu.cell p6 (by simp), hu.cell p7 (by simp)⟩, ⟨hu.cell p0 (by simp), hu.cell p1 (by simp), hu.cell p2 (by simp), hu.cell p3 (by simp)⟩⟩
        have HQ1 : Hid _ := hQ1
        clear hQ1
        have HE : Hid (f = (P.app (.cons v k m d .nil)).app R') := HP.out.1
        have HG : Hid (wr.grownBy wr.drew none) := hdr
        clear HP hdr
        refine wp_region_held_drew (S := (fun u => Qua bl (ol + j * 4) (.int .i64 v) (.int .i64 k) (.int .i64 m) (.slice a2 l2 c2) u ∧ Qua bf (of' + j * 4) (.int .i64 v) (.int .i64 k) (.int .i64 m) (.slice a1 l1 c1) u)) (by kernel_rfl) (HQ1.out _ HG.out) (fun hH => ?_)
        generalize wr.drew = x0 at *
        simp only [List.size_toArray, List.length_cons, List.length_nil, Nat.reduceAdd, Array.replicate, List.replicate]
        refine wpAnyH_take (i := 0) (v := ?_) rfl (by kernel_rfl) (by kernel_rfl) (by kernel_rfl) (fun _ _ _ h => h) (Or.inl ⟨by rfl, ?_⟩) hH ?_
        rotate_left
        · (intro v hS; obtain ⟨⟨s0, s1, s2, s3⟩, s4, s5, s6, s7⟩ := hS; go_simp; try with_reducible rfl)
        simp only [Act.put, List.setIfInBounds_toArray, List.set_cons_zero, List.set_cons_succ, List.getElem_toArray, List.getElem_cons_succ, List.getElem_cons_zero]
        refine wpAnyH_take (i := 1) (v := ?_) rfl (by kernel_rfl) (by kernel_rfl) (by kernel_rfl) (fun _ _ _ h => h) (Or.inl ⟨by rfl, ?_⟩) hH ?_
        rotate_left
        · (intro v hS; obtain ⟨⟨s0, s1, s2, s3⟩, s4, s5, s6, s7⟩ := hS; go_simp; try with_reducible rfl)
        simp only [Act.put, List.setIfInBounds_toArray, List.set_cons_zero, List.set_cons_succ, List.getElem_toArray, List.getElem_cons_succ, List.getElem_cons_zero]
        refine wpAnyH_take (i := 2) (v := ?_) rfl (by kernel_rfl) (by kernel_rfl) (by kernel_rfl) (fun _ _ _ h => h) (Or.inl ⟨by rfl, ?_⟩) hH ?_
        rotate_left
        · (intro v hS; obtain ⟨⟨s0, s1, s2, s3⟩, s4, s5, s6, s7⟩ := hS; go_simp; try with_reducible rfl)
        simp only [Act.put, List.setIfInBounds_toArray, List.set_cons_zero, List.set_cons_succ, List.getElem_toArray, List.getElem_cons_succ, List.getElem_cons_zero]
        refine wpAnyH_take (i := 3) (v := ?_) rfl (by kernel_rfl) (by kernel_rfl) (by kernel_rfl) (fun _ _ _ h => h) (Or.inl ⟨by rfl, ?_⟩) hH ?_
        rotate_left
        · (intro v hS; obtain ⟨⟨s0, s1, s2, s3⟩, s4, s5, s6, s7⟩ := hS; go_simp; try with_reducible rfl)
        simp only [Act.put, List.setIfInBounds_toArray, List.set_cons_zero, List.set_cons_succ, List.getElem_toArray, List.getElem_cons_succ, List.getElem_cons_zero]
        refine wpAnyH_take (i := 4) (v := ?_) rfl (by kernel_rfl) (by kernel_rfl) (by kernel_rfl) (fun _ _ _ h => h) (Or.inl ⟨by rfl, ?_⟩) hH ?_
        rotate_left
        · (intro v hS; obtain ⟨⟨s0, s1, s2, s3⟩, s4, s5, s6, s7⟩ := hS; go_simp; try with_reducible rfl)
        simp only [Act.put, List.setIfInBounds_toArray, List.set_cons_zero, List.set_cons_succ, List.getElem_toArray, List.getElem_cons_succ, List.getElem_cons_zero]
        refine wpAnyH_take (i := 5) (v := ?_) rfl (by kernel_rfl) (by kernel_rfl) (by kernel_rfl) (fun _ _ _ h => h) (Or.inl ⟨by rfl, ?_⟩) hH ?_
        rotate_left
        · (intro v hS; obtain ⟨⟨s0, s1, s2, s3⟩, s4, s5, s6, s7⟩ := hS; go_simp; try with_reducible rfl)
        simp only [Act.put, List.setIfInBounds_toArray, List.set_cons_zero, List.set_cons_succ, List.getElem_toArray, List.getElem_cons_succ, List.getElem_cons_zero]
        refine wpAnyH_take (i := 6) (v := ?_) rfl (by kernel_rfl) (by kernel_rfl) (by kernel_rfl) (fun _ _ _ h => h) (Or.inl ⟨by rfl, ?_⟩) hH ?_
        rotate_left
        · (intro v hS; obtain ⟨⟨s0, s1, s2, s3⟩, s4, s5, s6, s7⟩ := hS; go_simp; try with_reducible rfl)
        simp only [Act.put, List.setIfInBounds_toArray, List.set_cons_zero, List.set_cons_succ, List.getElem_toArray, List.getElem_cons_succ, List.getElem_cons_zero]
        refine wpAnyH_take (i := 7) (v := ?_) rfl (by kernel_rfl) (by kernel_rfl) (by kernel_rfl) (fun _ _ _ h => h) (Or.inl ⟨by rfl, ?_⟩) hH ?_
        rotate_left
        · (intro v hS; obtain ⟨⟨s0, s1, s2, s3⟩, s4, s5, s6, s7⟩ := hS; go_simp; try with_reducible rfl)
        simp only [Act.put, List.setIfInBounds_toArray, List.set_cons_zero, List.set_cons_succ, List.getElem_toArray, List.getElem_cons_succ, List.getElem_cons_zero]
        refine wpAnyH_take (i := 8) (v := ?_) rfl (by kernel_rfl) (by kernel_rfl) (by kernel_rfl) (fun _ _ _ h => h) (Or.inl ⟨by rfl, ?_⟩) hH ?_
        rotate_left
        · (intro v hS; obtain ⟨⟨s0, s1, s2, s3⟩, s4, s5, s6, s7⟩ := hS; go_simp; try with_reducible rfl)
        simp only [Act.put, List.setIfInBounds_toArray, List.set_cons_zero, List.set_cons_succ, List.getElem_toArray, List.getElem_cons_succ, List.getElem_cons_zero]
        refine wpAnyH_take (i := 9) (v := ?_) rfl (by kernel_rfl) (by kernel_rfl) (by kernel_rfl) (fun _ _ _ h => h) (Or.inl ⟨by rfl, ?_⟩) hH ?_
        rotate_left
        · (intro v hS; obtain ⟨⟨s0, s1, s2, s3⟩, s4, s5, s6, s7⟩ := hS; go_simp; try with_reducible rfl)
        simp only [Act.put, List.setIfInBounds_toArray, List.set_cons_zero, List.set_cons_succ, List.getElem_toArray, List.getElem_cons_succ, List.getElem_cons_zero]
        refine wpAnyH_take (i := 10) (v := ?_) rfl (by kernel_rfl) (by kernel_rfl) (by kernel_rfl) (fun _ _ _ h => h) (Or.inl ⟨by rfl, ?_⟩) hH ?_
        rotate_left
        · (intro v hS; obtain ⟨⟨s0, s1, s2, s3⟩, s4, s5, s6, s7⟩ := hS; go_simp; try with_reducible rfl)
        simp only [Act.put, List.setIfInBounds_toArray, List.set_cons_zero, List.set_cons_succ, List.getElem_toArray, List.getElem_cons_succ, List.getElem_cons_zero]
        refine wpAnyH_take (i := 11) (v := ?_) rfl (by kernel_rfl) (by kernel_rfl) (by kernel_rfl) (fun _ _ _ h => h) (Or.inl ⟨by rfl, ?_⟩) hH ?_
        rotate_left
        · (intro v hS; obtain ⟨⟨s0, s1, s2, s3⟩, s4, s5, s6, s7⟩ := hS; go_simp; try with_reducible rfl)
        simp only [Act.put, List.setIfInBounds_toArray, List.set_cons_zero, List.set_cons_succ, List.getElem_toArray, List.getElem_cons_succ, List.getElem_cons_zero]
        refine wpAnyH_take (i := 12) (v := ?_) rfl (by kernel_rfl) (by kernel_rfl) (by kernel_rfl) (fun _ _ _ h => h) (Or.inl ⟨by rfl, ?_⟩) hH ?_
        rotate_left
        · (intro v hS; obtain ⟨⟨s0, s1, s2, s3⟩, s4, s5, s6, s7⟩ := hS; go_simp; try with_reducible rfl)
        simp only [Act.put, List.setIfInBounds_toArray, List.set_cons_zero, List.set_cons_succ, List.getElem_toArray, List.getElem_cons_succ, List.getElem_cons_zero]
        refine wpAnyH_take (i := 13) (v := ?_) rfl (by kernel_rfl) (by kernel_rfl) (by kernel_rfl) (fun _ _ _ h => h) (Or.inl ⟨by rfl, ?_⟩) hH ?_
        rotate_left
        · (intro v hS; obtain ⟨⟨s0, s1, s2, s3⟩, s4, s5, s6, s7⟩ := hS; go_simp; try with_reducible rfl)
        simp only [Act.put, List.setIfInBounds_toArray, List.set_cons_zero, List.set_cons_succ, List.getElem_toArray, List.getElem_cons_succ, List.getElem_cons_zero]
        refine wpAnyH_take (i := 14) (v := ?_) rfl (by kernel_rfl) (by kernel_rfl) (by kernel_rfl) (fun _ _ _ h => h) (Or.inl ⟨by rfl, ?_⟩) hH ?_
        rotate_left
        · (intro v hS; obtain ⟨⟨s0, s1, s2, s3⟩, s4, s5, s6, s7⟩ := hS; go_simp; try with_reducible rfl)
        simp only [Act.put, List.setIfInBounds_toArray, List.set_cons_zero, List.set_cons_succ, List.getElem_toArray, List.getElem_cons_succ, List.getElem_cons_zero]
        refine wpAnyH_take (i := 15) (v := ?_) rfl (by kernel_rfl) (by kernel_rfl) (by kernel_rfl) (fun _ _ _ h => h) (Or.inl ⟨by rfl, ?_⟩) hH ?_
        rotate_left
        · (intro v hS; obtain ⟨⟨s0, s1, s2, s3⟩, s4, s5, s6, s7⟩ := hS; go_simp; try with_reducible rfl)
        simp only [Act.put, List.setIfInBounds_toArray, List.set_cons_zero, List.set_cons_succ, List.getElem_toArray, List.getElem_cons_succ, List.getElem_cons_zero]
        refine wpAnyH_take (i := 16) (v := ?_) rfl (by kernel_rfl) (by kernel_rfl) (by kernel_rfl) (fun _ _ _ h => h) (Or.inl ⟨by rfl, ?_⟩) hH ?_
        rotate_left
        · (intro v hS; obtain ⟨⟨s0, s1, s2, s3⟩, s4, s5, s6, s7⟩ := hS; go_simp; try with_reducible rfl)
        simp only [Act.put, List.setIfInBounds_toArray, List.set_cons_zero, List.set_cons_succ, List.getElem_toArray, List.getElem_cons_succ, List.getElem_cons_zero]
        refine wpAnyH_take (i := 17) (v := ?_) rfl (by kernel_rfl) (by kernel_rfl) (by kernel_rfl) (fun _ _ _ h => h) (Or.inl ⟨by rfl, ?_⟩) hH ?_
        rotate_left
        · (intro v hS; obtain ⟨⟨s0, s1, s2, s3⟩, s4, s5, s6, s7⟩ := hS; go_simp; try with_reducible rfl)
        simp only [Act.put, List.setIfInBounds_toArray, List.set_cons_zero, List.set_cons_succ, List.getElem_toArray, List.getElem_cons_succ, List.getElem_cons_zero]
        refine wpAnyH_take (i := 18) (v := ?_) rfl (by kernel_rfl) (by kernel_rfl) (by kernel_rfl) (fun _ _ _ h => h) (Or.inl ⟨by rfl, ?_⟩) hH ?_
        rotate_left
        · (intro v hS; obtain ⟨⟨s0, s1, s2, s3⟩, s4, s5, s6, s7⟩ := hS; go_simp; try with_reducible rfl)
        simp only [Act.put, List.setIfInBounds_toArray, List.set_cons_zero, List.set_cons_succ, List.getElem_toArray, List.getElem_cons_succ, List.getElem_cons_zero]
        refine wpAnyH_take (i := 19) (v := ?_) rfl (by kernel_rfl) (by kernel_rfl) (by kernel_rfl) (fun _ _ _ h => h) (Or.inl ⟨by rfl, ?_⟩) hH ?_
        rotate_left
        · (intro v hS; obtain ⟨⟨s0, s1, s2, s3⟩, s4, s5, s6, s7⟩ := hS; go_simp; try with_reducible rfl)
        simp only [Act.put, List.setIfInBounds_toArray, List.set_cons_zero, List.set_cons_succ, List.getElem_toArray, List.getElem_cons_succ, List.getElem_cons_zero]
        refine wpAnyH_take (i := 20) (v := ?_) rfl (by kernel_rfl) (by kernel_rfl) (by kernel_rfl) (fun _ _ _ h => h) (Or.inl ⟨by rfl, ?_⟩) hH ?_
        rotate_left
        · (intro v hS; obtain ⟨⟨s0, s1, s2, s3⟩, s4, s5, s6, s7⟩ := hS; go_simp; try with_reducible rfl)
        simp only [Act.put, List.setIfInBounds_toArray, List.set_cons_zero, List.set_cons_succ, List.getElem_toArray, List.getElem_cons_succ, List.getElem_cons_zero]
        refine wpAnyH_take (i := 21) (v := ?_) rfl (by kernel_rfl) (by kernel_rfl) (by kernel_rfl) (fun _ _ _ h => h) (Or.inl ⟨by rfl, ?_⟩) hH ?_
        rotate_left
        · (intro v hS; obtain ⟨⟨s0, s1, s2, s3⟩, s4, s5, s6, s7⟩ := hS; go_simp; try with_reducible rfl)
        simp only [Act.put, List.setIfInBounds_toArray, List.set_cons_zero, List.set_cons_succ, List.getElem_toArray, List.getElem_cons_succ, List.getElem_cons_zero]
        have CS : Hid _ := sameTyT (d.size + 1) d d k m k m a2 a1 l2 c2 l1 c1 x0 (Nat.lt_succ_self _) HQ.out.2.1.reads HQ.out.1.reads
        rw [eqV_self] at CS
        refine wpAnyH_ready (rs := [22]) (by kernel_rfl) (by simp) ?_
        refine AllReadyH.cons rfl (fun K hK => ?_) AllReadyH.nil
        go_simp
        refine Calls.mono CS.out ?_
        rintro e x1 ⟨he, hg3⟩
        subst he
        have HX : Hid (v3.grownBy x1 none) := grown_trans HQ.out.2.2 hg3
        refine hK.out _ _ (HQ1.out _ (grown_trans HG.out hg3)) (fun hH2 => ?_)
        clear CS hg3 HQ HQ1 HG
        clear hK K hH
        have hH := hH2
        clear hH2
        simp only [Act.put, List.setIfInBounds_toArray, List.set_cons_zero, List.set_cons_succ, List.getElem_toArray, List.getElem_cons_succ, List.getElem_cons_zero]
        refine wpAnyH_take (i := 23) (v := ?_) rfl (by kernel_rfl) (by kernel_rfl) (by kernel_rfl) (fun _ _ _ h => h) (Or.inl ⟨by rfl, ?_⟩) hH ?_
        rotate_left
        · (intro v hS; go_simp; try with_reducible rfl)
        simp only [Act.put, List.setIfInBounds_toArray, List.set_cons_zero, List.set_cons_succ, List.getElem_toArray, List.getElem_cons_succ, List.getElem_cons_zero]
        refine wpAnyH_take (i := 24) (v := ?_) rfl (by kernel_rfl) (by kernel_rfl) (by kernel_rfl) (fun _ _ _ h => h) (Or.inl ⟨by rfl, ?_⟩) hH ?_
        rotate_left
        · (intro v hS; go_simp; try with_reducible rfl)
        simp only [Act.put, List.setIfInBounds_toArray, List.set_cons_zero, List.set_cons_succ, List.getElem_toArray, List.getElem_cons_succ, List.getElem_cons_zero]
        refine wpAnyH_done (by kernel_rfl) ?_ _
        clear hH
        go_wp2
        go_roundw
        case rel => exact ⟨j + 1, P.app (.cons v k m d .nil), R', by omega, by go_num, by rw [B.app_len, hPl]; rfl, HE.out, HX.out⟩
        case measure => simp [intOf]; omega
      · obtain rfl : j = f.len := by omega
        have HX : Hid (v3.grownBy wr none) := HI.out.2
        obtain ⟨rk, rn, rd, hre⟩ : ∃ rk rn rd, rsT L' (s.k, s.m, s.f) = (rk, rn, rd) := ⟨_, _, _, rfl⟩
        obtain ⟨f1, f2, f3, f4, f5, f6⟩ := HF.out
        rw [hre] at f4 f5 f6
        simp only [] at f2 f3 f4 f5 f6
        have HO : Hid (resOk L' s.k s.m s.f = true ∧ resOk L' t.k t.m t.f = true ∧ resOk L' rk rn rd = true ∧ rsT L' (s.k, s.m, s.f) = (rk, rn, rd) ∧ rsT L' (t.k, t.m, t.f) = (rk, rn, rd) ∧ rsT L' (rk, rn, rd) = (rk, rn, rd)) := ⟨f2, f3, f4, hre, f5, f6⟩
        clear f1 f2 f3 f4 f5 f6 hre HI HF HM
        have CS : Hid (∀ (u : World) (a1 a2 : Option Addr) (l1 c1 l2 c2 : Nat), SlF u a1 l1 rd → SlF u a2 l2 rd → Calls Try.prog 11 #[.agg #[.int .i64 rk, .int .i64 rn, .slice a1 l1 c1], .agg #[.int .i64 rk, .int .i64 rn, .slice a2 l2 c2]] u fun e u' => e = .returned (.bool true) ∧ u.grownBy u' none) := fun u a1 a2 l1 c1 l2 c2 h1 h2 => by
          have := sameTyT (rd.size + 1) rd rd rk rn rk rn a1 a2 l1 c1 l2 c2 u (Nat.lt_succ_self _) h1 h2
          rw [eqV_self] at this
          exact this
        obtain ⟨⟨y0, y1, y2⟩, -⟩ := three (FT.out wr HX.out).1
        have CR : Hid _ := implResolveT L' a6 L'.len c6 s.f s.k s.m s.a s.l s.c wr (FT.out wr HX.out).2.2.1 (FT.out wr HX.out).2.2.2.2.1
        rw [HO.out.1] at CR
        rw [show rsT L' (s.k, s.m, s.f) = (rk, rn, rd) from HO.out.2.2.2.1] at CR
        go_wp2_with fail
        refine Calls.mono CR.out ?_
        rintro e x1 ⟨hg, hx⟩
        rw [if_pos rfl] at hx
        obtain ⟨a1, c1, bs1, he, hN, -⟩ := hx
        subst he
        clear CR y0 y1 y2
        have ga := World.grownBy_alloc x1 (.cells #[.int .i64 rk, .int .i64 rn, .slice a1 rd.len c1] 25) none
        have XA : Hid (v3.grownBy (x1.alloc (.cells #[.int .i64 rk, .int .i64 rn, .slice a1 rd.len c1] 25)) none ∧ (x1.alloc (.cells #[.int .i64 rk, .int .i64 rn, .slice a1 rd.len c1] 25)).heap[x1.heap.size]? = some (Obj.cells #[.int .i64 rk, .int .i64 rn, .slice a1 rd.len c1] 25) ∧ SlD (x1.alloc (.cells #[.int .i64 rk, .int .i64 rn, .slice a1 rd.len c1] 25)) 25 a1 rd.len rd) := ⟨grown_trans (grown_trans HX.out hg) ga, heap_alloc_new x1 _, hN.1.typed.none ga⟩
        clear ga hg hN HX
        simp only []
        go_upto_region 13 with fail
        generalize x1.alloc (.cells #[.int .i64 rk, .int .i64 rn, .slice a1 rd.len c1] 25) = x2 at *
        generalize x1.heap.size = q9 at *
        have HX : Hid (v3.grownBy x2 none) := XA.out.1
        obtain ⟨⟨y0, y1, y2⟩, -⟩ := three (FT.out x2 HX.out).2.1
        have CR : Hid _ := implResolveT L' a6 L'.len c6 t.f t.k t.m t.a t.l t.c x2 (FT.out x2 HX.out).2.2.1 (FT.out x2 HX.out).2.2.2.2.2.1
        rw [HO.out.2.1] at CR
        rw [show rsT L' (t.k, t.m, t.f) = (rk, rn, rd) from HO.out.2.2.2.2.1] at CR
        go_wp2_with fail
        refine Calls.mono CR.out ?_
        rintro e x3 ⟨hg, hx⟩
        rw [if_pos rfl] at hx
        obtain ⟨a2, c2, bs2, he, hN, -⟩ := hx
        subst he
        clear CR y0 y1 y2
        have ga := World.grownBy_alloc x3 (.cells #[.int .i64 rk, .int .i64 rn, .slice a2 rd.len c2] 25) none
        have gg := grown_trans hg ga
        have XB : Hid (v3.grownBy (x3.alloc (.cells #[.int .i64 rk, .int .i64 rn, .slice a2 rd.len c2] 25)) none ∧ (x3.alloc (.cells #[.int .i64 rk, .int .i64 rn, .slice a2 rd.len c2] 25)).heap[x3.heap.size]? = some (Obj.cells #[.int .i64 rk, .int .i64 rn, .slice a2 rd.len c2] 25) ∧ SlD (x3.alloc (.cells #[.int .i64 rk, .int .i64 rn, .slice a2 rd.len c2] 25)) 25 a2 rd.len rd ∧ (x3.alloc (.cells #[.int .i64 rk, .int .i64 rn, .slice a2 rd.len c2] 25)).heap[q9]? = some (Obj.cells #[.int .i64 rk, .int .i64 rn, .slice a1 rd.len c1] 25) ∧ SlD (x3.alloc (.cells #[.int .i64 rk, .int .i64 rn, .slice a2 rd.len c2] 25)) 25 a1 rd.len rd) := ⟨grown_trans HX.out gg, heap_alloc_new x3 _, hN.1.typed.none ga, (gg.block _ (lt_of_block XA.out.2.1) (by simp)).trans XA.out.2.1, XA.out.2.2.none gg⟩
        clear ga hg hN HX gg XA
        simp only []
        go_upto_region 14 with fail
        generalize x3.alloc (.cells #[.int .i64 rk, .int .i64 rn, .slice a2 rd.len c2] 25) = x4 at *
        generalize x3.heap.size = q11 at *
        have HX : Hid (v3.grownBy x4 none) := XB.out.1
        obtain ⟨⟨y0, y1, y2⟩, -⟩ := three XB.out.2.2.2.1
        have CR : Hid _ := implResolveT L' a6 L'.len c6 rd rk rn a1 rd.len c1 x4 (FT.out x4 HX.out).2.2.1 XB.out.2.2.2.2
        rw [HO.out.2.2.1] at CR
        rw [show rsT L' (rk, rn, rd) = (rk, rn, rd) from HO.out.2.2.2.2.2] at CR
        go_wp2_with fail
        refine Calls.mono CR.out ?_
        rintro e x5 ⟨hg, hx⟩
        rw [if_pos rfl] at hx
        obtain ⟨a3, c3, bs3, he, hN, -⟩ := hx
        subst he
        clear CR y0 y1 y2
        have ga := World.grownBy_alloc x5 (.cells #[.int .i64 rk, .int .i64 rn, .slice a3 rd.len c3] 25) none
        have gg := grown_trans hg ga
        have XC : Hid (v3.grownBy (x5.alloc (.cells #[.int .i64 rk, .int .i64 rn, .slice a3 rd.len c3] 25)) none ∧ (x5.alloc (.cells #[.int .i64 rk, .int .i64 rn, .slice a3 rd.len c3] 25)).heap[x5.heap.size]? = some (Obj.cells #[.int .i64 rk, .int .i64 rn, .slice a3 rd.len c3] 25) ∧ SlD (x5.alloc (.cells #[.int .i64 rk, .int .i64 rn, .slice a3 rd.len c3] 25)) 25 a3 rd.len rd ∧ (x5.alloc (.cells #[.int .i64 rk, .int .i64 rn, .slice a3 rd.len c3] 25)).heap[q9]? = some (Obj.cells #[.int .i64 rk, .int .i64 rn, .slice a1 rd.len c1] 25) ∧ SlD (x5.alloc (.cells #[.int .i64 rk, .int .i64 rn, .slice a3 rd.len c3] 25)) 25 a1 rd.len rd ∧ (x5.alloc (.cells #[.int .i64 rk, .int .i64 rn, .slice a3 rd.len c3] 25)).heap[q11]? = some (Obj.cells #[.int .i64 rk, .int .i64 rn, .slice a2 rd.len c2] 25) ∧ SlD (x5.alloc (.cells #[.int .i64 rk, .int .i64 rn, .slice a3 rd.len c3] 25)) 25 a2 rd.len rd) := ⟨grown_trans HX.out gg, heap_alloc_new x5 _, hN.1.typed.none ga, (gg.block _ (lt_of_block XB.out.2.2.2.1) (by simp)).trans XB.out.2.2.2.1, XB.out.2.2.2.2.none gg, (gg.block _ (lt_of_block XB.out.2.1) (by simp)).trans XB.out.2.1, XB.out.2.2.1.none gg⟩
        clear ga hg hN HX gg XB HO
        simp only []
        go_upto_region 15 with fail
        generalize x5.alloc (.cells #[.int .i64 rk, .int .i64 rn, .slice a3 rd.len c3] 25) = x6 at *
        generalize x5.heap.size = q13 at *
        obtain ⟨⟨y0, y1, y2⟩, -⟩ := three XC.out.2.1
        obtain ⟨⟨z0, z1, z2⟩, -⟩ := three XC.out.2.2.2.1
        obtain ⟨⟨w0, w1, w2⟩, -⟩ := three XC.out.2.2.2.2.2.1
        go_wp2_with fail
        refine Calls.mono (CS.out x6 a1 a2 rd.len c1 rd.len c2 XC.out.2.2.2.2.1.reads XC.out.2.2.2.2.2.2.reads) ?_
        rintro e x7 ⟨he, hg⟩
        subst he
        have XD : Hid (v3.grownBy x7 none ∧ SlF x7 a3 rd.len rd ∧ SlF x7 a1 rd.len rd) := ⟨grown_trans XC.out.1 hg, (XC.out.2.2.1.none hg).reads, (XC.out.2.2.2.2.1.none hg).reads⟩
        obtain ⟨⟨y0', y1', y2'⟩, -⟩ := three ((hg.block _ (lt_of_block XC.out.2.1) (by simp)).trans XC.out.2.1)
        obtain ⟨⟨z0', z1', z2'⟩, -⟩ := three ((hg.block _ (lt_of_block XC.out.2.2.2.1) (by simp)).trans XC.out.2.2.2.1)
        clear XC hg y0 y1 y2 z0 z1 z2 w0 w1 w2
        simp only []
        go_wp2_with fail
        refine Calls.mono (CS.out x7 a3 a1 rd.len c3 rd.len c1 XD.out.2.1 XD.out.2.2) ?_
        rintro e x8 ⟨he, hg⟩
        subst he
        have XE : Hid (w.grownBy x8 none) := (FT.out x8 (grown_trans XD.out.1 hg)).2.2.2.2.2.2
        clear XD hg y0' y1' y2' z0' z1' z2' CS FT
        simp only []
        go_wp2
        go_ret
        exact ⟨rfl, XE.out⟩
end Go.Proofs.Ytmlganaiajhjeaa.By
