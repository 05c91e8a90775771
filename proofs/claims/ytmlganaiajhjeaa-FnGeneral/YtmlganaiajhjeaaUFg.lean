/-
  The walk of laws.FnGeneral. No statement is proved here.
-/
import Derived.Test.YtmlganaiajhjeaaUFu
import Derived.Test.YtmlganaiajhjeaaTDcAlso
import Derived.Test.YtmlganaiajhjeaaTSubS
import Derived.Test.YtmlganaiajhjeaaTSize
namespace Go.Proofs.Ytmlganaiajhjeaa.By
open Go.RowKit
set_option linter.unusedVariables false
set_option linter.unusedSimpArgs false

theorem okL_app {P Q : F} (h : okL P = true) (k : okL Q = true) : okL (P.app Q) = true := by
  induction P with
  | nil => exact k
  | cons kk n d r _ ih =>
    simp only [okL, Bool.and_eq_true] at h
    simp only [F.app, okL, Bool.and_eq_true]
    exact ⟨h.1, ih h.2⟩
theorem uni_var : ∃ L', uniV .nil (7, 0, .nil) (1, 0, .nil) = some L' ∧ L'.len = 1 := by
  obtain ⟨L', h, -⟩ := uniV_general (E := .cons 1 0 .nil .nil) (s := (7, 0, .nil)) (t := (1, 0, .nil)) rfl rfl rfl rfl
  refine ⟨L', h, ?_⟩
  have h1 : L'.len ≤ 1 := uniV_len (m := [0]) h trivial (fun x hx => by simp [vTt, vT] at hx; simp [hx]) (fun x hx => by simp [vTt, vT, varsF] at hx)
  obtain ⟨-, h2, -⟩ := uniV_sound h
  cases L' with
  | nil => have := congrArg (·.1) h2; simp [rsT] at this
  | cons v k n d r => simp only [B.len] at h1 ⊢; omega
theorem gen_facts {E : F} {s t : Int × Int × F} (h1 : subOk E s.1 s.2.1 s.2.2 = true) (h2 : subOk E t.1 t.2.1 t.2.2 = true) (he : subR E s.1 s.2.1 s.2.2 = subR E t.1 t.2.1 t.2.2) (hs : ∀ x ∈ vTt s, V5 x) :
    ∃ L', uniV .nil s t = some L' ∧ resOk L' s.1 s.2.1 s.2.2 = true ∧ subOk E (rsT L' s).1 (rsT L' s).2.1 (rsT L' s).2.2 = true ∧ subR E (rsT L' s).1 (rsT L' s).2.1 (rsT L' s).2.2 = subR E s.1 s.2.1 s.2.2 := by
  rw [subR_yes h1, subR_yes h2] at he
  have g1 := h1
  have g2 := h2
  simp only [subOk, Bool.and_eq_true, decide_eq_true_eq] at g1 g2
  obtain ⟨L', hu, hg⟩ := uniV_general (E := E) (s := s) (t := t) g1.1 g2.1 he g1.2.2.2
  have hl := uniV_count hu (L := .nil) trivial (.inl rfl) hs
  obtain ⟨-, f2, -⟩ := uniV_facts hu hl
  obtain ⟨-, -, -, -, o3, -⟩ := uniV_sound hu
  have hg' : subT E (rsT L' s).1 (rsT L' s).2.1 (rsT L' s).2.2 = subT E s.1 s.2.1 s.2.2 := hg
  have ok : subOk E (rsT L' s).1 (rsT L' s).2.1 (rsT L' s).2.2 = true := by
    simp only [subOk, Bool.and_eq_true, decide_eq_true_eq]
    rw [hg']
    exact ⟨o3, g1.2.1, g1.2.2.1, g1.2.2.2⟩
  exact ⟨L', hu, f2, ok, by rw [subR_yes ok, subR_yes h1, hg']⟩


set_option maxRecDepth 8000 in
set_option maxHeartbeats 8000000 in
theorem lawFnGeneral (a : Option Addr) (n cap : Nat) (zs : List Int) (hz : Byt zs) (w : World) (hr : Reads w a n zs) (hn : n ≤ 9223372036854775807) :
    Calls Try.prog 5 #[.slice a n cap] w fun e u => e = .returned (.bool true) ∧ w.grownBy u none := by
  have C0 : Hid _ := drawUnifyT a n cap zs w hr hz hn
  have C1 : Hid (∀ u, w.grownBy u none → Calls Try.prog 8 #[.slice a n cap] u fun e u' => DrS u e u') := fun u hu => drawSubT a n cap zs u (hr.none hu) hz hn
  clear hr hz hn
  go_enter Try.func5, Try.ntmps5
  go_wp2_with fail
  refine Calls.mono C0.out ?_
  rintro e v1 ⟨f, L, av, cv, s, t, he, hg, hB, hS, hT, hV, hwL, haL, hcase⟩
  subst he
  obtain ⟨b0, b1, bsz⟩ := alloc2_blocks v1 (.cells #[.int .i64 s.k, .int .i64 s.m, .slice s.a s.l s.c] 25) (.cells #[.int .i64 t.k, .int .i64 t.m, .slice t.a t.l t.c] 25)
  have g0 := grown_alloc (grown_alloc (World.grownBy.refl v1 none) (.cells #[.int .i64 s.k, .int .i64 s.m, .slice s.a s.l s.c] 25)) (.cells #[.int .i64 t.k, .int .i64 t.m, .slice t.a t.l t.c] 25)
  have LV : Hid (w.grownBy _ none ∧ _ = some (Obj.cells #[.int .i64 s.k, .int .i64 s.m, .slice s.a s.l s.c] 25) ∧ _ = some (Obj.cells #[.int .i64 t.k, .int .i64 t.m, .slice t.a t.l t.c] 25) ∧ SlO _ 25 s.a s.l s.c s.f s.bs ∧ SlO _ 25 t.a t.l t.c t.f t.bs) := ⟨grown_trans hg g0, b0, b1, hS.old g0, hT.old g0⟩
  have HV : Hid (∀ x ∈ vTt (s.k, s.m, s.f), V5 x) := hV
  clear C0 hg hB hS hT hV hwL haL hcase b0 b1 bsz g0
  simp only []
  go_upto_region 2 with fail
  generalize (v1.alloc (.cells #[.int .i64 s.k, .int .i64 s.m, .slice s.a s.l s.c] 25)).alloc (.cells #[.int .i64 t.k, .int .i64 t.m, .slice t.a t.l t.c] 25) = v2 at *
  generalize v1.heap.size = q4 at *
  go_wp2_with fail
  refine Calls.mono (C1.out v2 LV.out.1) ?_
  rintro e v3 ⟨k0, m0, f0, a0, l0, c0, bs0, aL, lL, cL, E, bsL, he, hg, -, hL, hl4, -⟩
  subst he
  have ga := World.grownBy_alloc v3 (.cells #[.int .i64 k0, .int .i64 m0, .slice a0 l0 c0] 25) none
  have gg := grown_trans hg ga
  have FT : Hid (∀ u, (v3.alloc (.cells #[.int .i64 k0, .int .i64 m0, .slice a0 l0 c0] 25)).grownBy u none → u.heap[q4]? = some (Obj.cells #[.int .i64 s.k, .int .i64 s.m, .slice s.a s.l s.c] 25) ∧ u.heap[q4 + 1]? = some (Obj.cells #[.int .i64 t.k, .int .i64 t.m, .slice t.a t.l t.c] 25) ∧ SlO u 25 s.a s.l s.c s.f s.bs ∧ SlO u 25 t.a t.l t.c t.f t.bs ∧ SlD u 25 aL lL E ∧ w.grownBy u none) := fun u hu => by
    have hh := grown_trans gg hu
    exact ⟨(hh.block _ (lt_of_block LV.out.2.1) (by simp)).trans LV.out.2.1, (hh.block _ (lt_of_block LV.out.2.2.1) (by simp)).trans LV.out.2.2.1, LV.out.2.2.2.1.old hh, LV.out.2.2.2.2.old hh, (hL.1.typed.none ga).none hu, grown_trans LV.out.1 hh⟩
  have hEl : E.len = lL := hL.1.1
  clear LV C1 hg hL ga gg
  simp only []
  go_wp2
  generalize v3.alloc (.cells #[.int .i64 k0, .int .i64 m0, .slice a0 l0 c0] 25) = v4 at *
  generalize v3.heap.size = q6 at *
  go_loopw [8] (fun i wr => ∃ (j : Nat) (P R : F), j ≤ lL ∧ i = .int .i64 j ∧ P.len = j ∧ Hid (E = P.app R ∧ okL P = true ∧ v4.grownBy wr none)) (fun i _ => lL - (intOf i).toNat)
  case atStart => exact ⟨0, .nil, E, Nat.zero_le _, rfl, rfl, rfl, rfl, World.grownBy.refl _ _⟩
  case round =>
    obtain ⟨j, P, R, hj, rfl, hPl, HI⟩ := hrel
    by_cases hlt : j < lL
    · have hlt' : (j : Int) < (lL : Int) := by omega
      have hRl : R.len = lL - j - 1 + 1 := by have := F.app_len P R; rw [← HI.out.1] at this; omega
      obtain ⟨kk, nn, dd, R', rfl⟩ : ∃ kk nn dd R', R = .cons kk nn dd R' := by
        cases R with
        | nil => simp [F.len] at hRl
        | cons kk nn dd R' => exact ⟨kk, nn, dd, R', rfl⟩
      obtain ⟨-, hf1, hf2⟩ := (FT.out wr HI.out.2.2).2.2.2.2.1
      rcases hf2 with hf2 | ⟨bf, of', hfa, -, hf2⟩
      · omega
      have E1 := HI.out.1
      rw [E1] at hf2
      have hf3 := hf2.snd
      rw [hPl] at hf3
      obtain ⟨a1, l1, c1, x0, x1, x2, hd1, -⟩ := hf3.out
      subst hfa
      have CO : Hid _ := specTyOkT dd kk nn a1 l1 c1 wr hd1.reads
      have HJ : Hid (E = (P.app (.cons kk nn dd .nil)).app R' ∧ okL P = true ∧ v4.grownBy wr none) := ⟨by rw [F.app_assoc]; exact E1, HI.out.2.1, HI.out.2.2⟩
      clear hf2 hf3 hd1 HI E1 hRl
      go_wp2_with fail
      refine Calls.mono CO.out ?_
      rintro e y1 ⟨he, hg⟩
      subst he
      have HY : Hid (v4.grownBy y1 none) := grown_trans HJ.out.2.2 hg
      clear CO hg x0 x1 x2
      simp only []
      cases hok : okT kk nn dd with
      | false =>
        have CT : Hid _ := implTyOkT .nil 0 0 none 0 0 y1 ⟨rfl, by omega, .inl rfl⟩
        rw [show okT 0 0 .nil = true from rfl] at CT
        clear hok HJ
        go_wp2_with fail
        refine Calls.mono CT.out ?_
        rintro e y2 ⟨he, hg⟩
        subst he
        have GF : Hid (w.grownBy y2 none) := (FT.out y2 (grown_trans HY.out hg)).2.2.2.2.2
        clear CT hg FT HY
        simp only []
        go_wp2
        go_ret
        exact ⟨rfl, GF.out⟩
      | true =>
        have HK : Hid (okL (P.app (.cons kk nn dd .nil)) = true) := okL_app HJ.out.2.1 (by simp [okL, hok])
        clear hok
        go_wp2
        go_roundw
        case rel => exact ⟨j + 1, P.app (.cons kk nn dd .nil), R', by omega, by go_num, by rw [F.app_len, hPl]; rfl, HJ.out.1, HK.out, HY.out⟩
        case measure => simp [intOf]; omega
    · obtain rfl : j = lL := by omega
      have HX : Hid (v4.grownBy wr none) := HI.out.2.2
      clear HI
      have C8 : Hid _ := specTySubstT s.f s.k s.m s.a s.l s.c s.bs E aL j cL wr (FT.out wr HX.out).2.2.1 (FT.out wr HX.out).2.2.2.2.1.reads
      have HG : Hid (subOk E s.k s.m s.f = true → subOk E t.k t.m t.f = true → subR E s.k s.m s.f = subR E t.k t.m t.f → ∃ L', uniV .nil (s.k, s.m, s.f) (t.k, t.m, t.f) = some L' ∧ resOk L' s.k s.m s.f = true ∧ subOk E (rsT L' (s.k, s.m, s.f)).1 (rsT L' (s.k, s.m, s.f)).2.1 (rsT L' (s.k, s.m, s.f)).2.2 = true ∧ subR E (rsT L' (s.k, s.m, s.f)).1 (rsT L' (s.k, s.m, s.f)).2.1 (rsT L' (s.k, s.m, s.f)).2.2 = subR E s.k s.m s.f) := fun h1 h2 h3 => gen_facts (s := (s.k, s.m, s.f)) (t := (t.k, t.m, t.f)) h1 h2 h3 HV.out
      generalize subR E s.k s.m s.f = RS1 at *
      obtain ⟨xk, xn, xd⟩ := RS1
      generalize subOk E s.k s.m s.f = ok1 at *
      simp only [] at C8
      obtain ⟨⟨y0, y1, y2⟩, -⟩ := three (FT.out wr HX.out).1
      go_wp2_with fail
      refine Calls.mono C8.out ?_
      rintro e x1 ⟨ax, lx, cx, bsx, he, hg, hN⟩
      subst he
      have ga := World.grownBy_alloc x1 (.cells #[.int .i64 xk, .int .i64 xn, .slice ax lx cx] 25) none
      have XA : Hid (v4.grownBy (x1.alloc (.cells #[.int .i64 xk, .int .i64 xn, .slice ax lx cx] 25)) none ∧ (x1.alloc (.cells #[.int .i64 xk, .int .i64 xn, .slice ax lx cx] 25)).heap[x1.heap.size]? = some (Obj.cells #[.int .i64 xk, .int .i64 xn, .slice ax lx cx] 25) ∧ SlF (x1.alloc (.cells #[.int .i64 xk, .int .i64 xn, .slice ax lx cx] 25)) ax lx xd) := ⟨grown_trans (grown_trans HX.out hg) ga, heap_alloc_new x1 _, (hN.1.old ga).reads⟩
      clear C8 hg hN ga HX y0 y1 y2
      simp only []
      go_upto_region 9 with fail
      generalize x1.alloc (.cells #[.int .i64 xk, .int .i64 xn, .slice ax lx cx] 25) = x2 at *
      generalize x1.heap.size = q9 at *
      have C9 : Hid _ := specTySubstT t.f t.k t.m t.a t.l t.c t.bs E aL j cL x2 (FT.out x2 XA.out.1).2.2.2.1 (FT.out x2 XA.out.1).2.2.2.2.1.reads
      generalize subR E t.k t.m t.f = RS2 at *
      obtain ⟨yk, yn, yd⟩ := RS2
      generalize subOk E t.k t.m t.f = ok2 at *
      simp only [] at C9
      obtain ⟨⟨y0, y1, y2⟩, -⟩ := three (FT.out x2 XA.out.1).2.1
      go_wp2_with fail
      refine Calls.mono C9.out ?_
      rintro e x3 ⟨ay, ly, cy, bsy, he, hg, hN⟩
      subst he
      have ga := World.grownBy_alloc x3 (.cells #[.int .i64 yk, .int .i64 yn, .slice ay ly cy] 25) none
      have gg := grown_trans hg ga
      have XB : Hid (v4.grownBy (x3.alloc (.cells #[.int .i64 yk, .int .i64 yn, .slice ay ly cy] 25)) none ∧ (x3.alloc (.cells #[.int .i64 yk, .int .i64 yn, .slice ay ly cy] 25)).heap[x3.heap.size]? = some (Obj.cells #[.int .i64 yk, .int .i64 yn, .slice ay ly cy] 25) ∧ SlF (x3.alloc (.cells #[.int .i64 yk, .int .i64 yn, .slice ay ly cy] 25)) ay ly yd ∧ (x3.alloc (.cells #[.int .i64 yk, .int .i64 yn, .slice ay ly cy] 25)).heap[q9]? = some (Obj.cells #[.int .i64 xk, .int .i64 xn, .slice ax lx cx] 25) ∧ SlF (x3.alloc (.cells #[.int .i64 yk, .int .i64 yn, .slice ay ly cy] 25)) ax lx xd) := ⟨grown_trans XA.out.1 gg, heap_alloc_new x3 _, (hN.1.old ga).reads, (gg.block _ (lt_of_block XA.out.2.1) (by simp)).trans XA.out.2.1, XA.out.2.2.none gg⟩
      clear C9 hg hN ga gg XA y0 y1 y2
      simp only []
      go_upto_region 10 with fail
      generalize x3.alloc (.cells #[.int .i64 yk, .int .i64 yn, .slice ay ly cy] 25) = x4 at *
      generalize x3.heap.size = q11 at *
      have GX : Hid (w.grownBy x4 none) := (FT.out x4 XB.out.1).2.2.2.2.2
      cases ok1 with
      | false =>
        clear XB HG FT
        go_wp2_with fail
        obtain ⟨L1, hu1, hl1⟩ := uni_var
        have CU : Hid _ := implUnifyT .nil none 0 0 .nil .nil 7 0 1 0 none none 0 0 0 0 x4 ⟨rfl, by omega, .inl rfl⟩ ⟨rfl, by omega, .inl rfl⟩ ⟨rfl, by omega, .inl rfl⟩
        rw [hu1] at CU
        refine Calls.mono CU.out ?_
        rintro e z1 ⟨hg, a8, c8, bs8, he, hN8, -⟩
        subst he
        have GF : Hid (w.grownBy z1 none) := grown_trans GX.out hg
        rw [hl1]
        clear CU hg hN8 hu1 hl1
        simp only []
        go_wp2
        go_ret
        exact ⟨rfl, GF.out⟩
      | true =>
        cases ok2 with
        | false =>
          clear XB HG FT
          go_wp2_with fail
          obtain ⟨L1, hu1, hl1⟩ := uni_var
          have CU : Hid _ := implUnifyT .nil none 0 0 .nil .nil 7 0 1 0 none none 0 0 0 0 x4 ⟨rfl, by omega, .inl rfl⟩ ⟨rfl, by omega, .inl rfl⟩ ⟨rfl, by omega, .inl rfl⟩
          rw [hu1] at CU
          refine Calls.mono CU.out ?_
          rintro e z1 ⟨hg, a8, c8, bs8, he, hN8, -⟩
          subst he
          have GF : Hid (w.grownBy z1 none) := grown_trans GX.out hg
          rw [hl1]
          clear CU hg hN8 hu1 hl1
          simp only []
          go_wp2
          go_ret
          exact ⟨rfl, GF.out⟩
        | true =>
          have CS : Hid _ := sameTyT (xd.size + 1) xd yd xk xn yk yn ax ay lx cx ly cy x4 (Nat.lt_succ_self _) XB.out.2.2.2.2 XB.out.2.2.1
          obtain ⟨⟨y0, y1, y2⟩, -⟩ := three XB.out.2.1
          obtain ⟨⟨z0, z1, z2⟩, -⟩ := three XB.out.2.2.2.1
          clear GX
          go_wp2_with fail
          refine Calls.mono CS.out ?_
          rintro e x5 ⟨he, hg⟩
          subst he
          have GX : Hid (w.grownBy x5 none) := (FT.out x5 (grown_trans XB.out.1 hg)).2.2.2.2.2
          have XC : Hid (v4.grownBy x5 none ∧ x5.heap[q9]? = some (Obj.cells #[.int .i64 xk, .int .i64 xn, .slice ax lx cx] 25) ∧ SlF x5 ax lx xd) := ⟨grown_trans XB.out.1 hg, (hg.block _ (lt_of_block XB.out.2.2.2.1) (by simp)).trans XB.out.2.2.2.1, XB.out.2.2.2.2.none hg⟩
          clear CS hg XB y0 y1 y2 z0 z1 z2
          simp only []
          cases heq : eqV xk xn xd yk yn yd with
          | false =>
            clear XC HG FT heq
            go_wp2_with fail
            obtain ⟨L1, hu1, hl1⟩ := uni_var
            have CU : Hid _ := implUnifyT .nil none 0 0 .nil .nil 7 0 1 0 none none 0 0 0 0 x5 ⟨rfl, by omega, .inl rfl⟩ ⟨rfl, by omega, .inl rfl⟩ ⟨rfl, by omega, .inl rfl⟩
            rw [hu1] at CU
            refine Calls.mono CU.out ?_
            rintro e z1 ⟨hg, a8, c8, bs8, he, hN8, -⟩
            subst he
            have GF : Hid (w.grownBy z1 none) := grown_trans GX.out hg
            rw [hl1]
            clear CU hg hN8 hu1 hl1
            simp only []
            go_wp2
            go_ret
            exact ⟨rfl, GF.out⟩
          | true =>
            have hxy : (xk, xn, xd) = (yk, yn, yd) := by
              simp only [eqV, Bool.and_eq_true, beq_iff_eq, decide_eq_true_eq] at heq
              obtain ⟨h1, h2, h3⟩ := (show xk = yk ∧ xn = yn ∧ xd = yd by
                first
                | exact ⟨heq.1.1, heq.1.2, eqB_iff.1 heq.2⟩
                | exact ⟨heq.1, heq.2.1, eqB_iff.1 heq.2.2⟩
                | exact ⟨heq.1.1.1, heq.1.1.2, eqB_iff.1 heq.2⟩)
              rw [h1, h2, h3]
            obtain ⟨L', hu, hro, hso, hsr⟩ := HG.out (by first | exact rfl | trivial) (by first | exact rfl | trivial) hxy
            clear heq hxy HG GX
            obtain ⟨rk, rn, rd, hre⟩ : ∃ rk rn rd, rsT L' (s.k, s.m, s.f) = (rk, rn, rd) := ⟨_, _, _, rfl⟩
            rw [hre] at hso hsr
            simp only [] at hso hsr
            have HO : Hid (resOk L' s.k s.m s.f = true ∧ rsT L' (s.k, s.m, s.f) = (rk, rn, rd) ∧ subOk E rk rn rd = true ∧ subR E rk rn rd = (xk, xn, xd)) := ⟨hro, hre, hso, hsr⟩
            have C13 : Hid _ := implUnifyT .nil none 0 0 s.f t.f s.k s.m t.k t.m s.a t.a s.l s.c t.l t.c x5 ⟨rfl, by omega, .inl rfl⟩ (FT.out x5 XC.out.1).2.2.1.typed (FT.out x5 XC.out.1).2.2.2.1.typed
            rw [hu] at C13
            clear hu hro hre hso hsr
            obtain ⟨⟨y0, y1, y2⟩, -⟩ := three (FT.out x5 XC.out.1).1
            obtain ⟨⟨z0, z1, z2⟩, -⟩ := three (FT.out x5 XC.out.1).2.1
            go_wp2_with fail
            refine Calls.mono C13.out ?_
            rintro e x6 ⟨hg, a6, c6, bs6, he, hN6, -⟩
            subst he
            have XD : Hid (v4.grownBy x6 none ∧ x6.heap[q9]? = some (Obj.cells #[.int .i64 xk, .int .i64 xn, .slice ax lx cx] 25) ∧ SlF x6 ax lx xd ∧ SlBD x6 25 44 a6 L'.len L') := ⟨grown_trans XC.out.1 hg, (hg.block _ (lt_of_block XC.out.2.1) (by simp)).trans XC.out.2.1, XC.out.2.2.none hg, hN6.1.typed⟩
            clear C13 hg hN6 XC y0 y1 y2 z0 z1 z2
            have C14 : Hid _ := implResolveT L' a6 L'.len c6 s.f s.k s.m s.a s.l s.c x6 XD.out.2.2.2 (FT.out x6 XD.out.1).2.2.1.typed
            rw [HO.out.1, HO.out.2.1] at C14
            obtain ⟨⟨y0, y1, y2⟩, -⟩ := three (FT.out x6 XD.out.1).1
            simp only []
            go_wp2_with fail
            refine Calls.mono C14.out ?_
            rintro e x7 ⟨hg, hx⟩
            rw [if_pos rfl] at hx
            obtain ⟨a7, c7, bs7, he, hN7, -⟩ := hx
            subst he
            have ga := World.grownBy_alloc x7 (.cells #[.int .i64 rk, .int .i64 rn, .slice a7 rd.len c7] 25) none
            have gg := grown_trans hg ga
            have XE : Hid (v4.grownBy (x7.alloc (.cells #[.int .i64 rk, .int .i64 rn, .slice a7 rd.len c7] 25)) none ∧ (x7.alloc (.cells #[.int .i64 rk, .int .i64 rn, .slice a7 rd.len c7] 25)).heap[q9]? = some (Obj.cells #[.int .i64 xk, .int .i64 xn, .slice ax lx cx] 25) ∧ SlF (x7.alloc (.cells #[.int .i64 rk, .int .i64 rn, .slice a7 rd.len c7] 25)) ax lx xd ∧ (x7.alloc (.cells #[.int .i64 rk, .int .i64 rn, .slice a7 rd.len c7] 25)).heap[x7.heap.size]? = some (Obj.cells #[.int .i64 rk, .int .i64 rn, .slice a7 rd.len c7] 25) ∧ SlF (x7.alloc (.cells #[.int .i64 rk, .int .i64 rn, .slice a7 rd.len c7] 25)) a7 rd.len rd) := ⟨grown_trans XD.out.1 gg, (gg.block _ (lt_of_block XD.out.2.1) (by simp)).trans XD.out.2.1, XD.out.2.2.1.none gg, heap_alloc_new x7 _, (hN7.1.old ga).reads⟩
            clear C14 hg hN7 ga gg XD y0 y1 y2
            simp only []
            go_upto_region 15 with fail
            generalize x7.alloc (.cells #[.int .i64 rk, .int .i64 rn, .slice a7 rd.len c7] 25) = x8 at *
            generalize x7.heap.size = q17 at *
            have C17 : Hid _ := implTySubstT rd rk rn a7 rd.len c7 E aL j cL x8 XE.out.2.2.2.2 (FT.out x8 XE.out.1).2.2.2.2.1.reads
            rw [HO.out.2.2.1, HO.out.2.2.2] at C17
            obtain ⟨⟨y0, y1, y2⟩, -⟩ := three XE.out.2.2.2.1
            go_wp2_with fail
            refine Calls.mono C17.out ?_
            rintro e x9 ⟨a9, l9, c9, bs9, he, hg, hN9⟩
            subst he
            have ga := World.grownBy_alloc x9 (.cells #[.int .i64 xk, .int .i64 xn, .slice a9 l9 c9] 25) none
            have gg := grown_trans hg ga
            have XF : Hid (v4.grownBy (x9.alloc (.cells #[.int .i64 xk, .int .i64 xn, .slice a9 l9 c9] 25)) none ∧ (x9.alloc (.cells #[.int .i64 xk, .int .i64 xn, .slice a9 l9 c9] 25)).heap[q9]? = some (Obj.cells #[.int .i64 xk, .int .i64 xn, .slice ax lx cx] 25) ∧ SlF (x9.alloc (.cells #[.int .i64 xk, .int .i64 xn, .slice a9 l9 c9] 25)) ax lx xd ∧ (x9.alloc (.cells #[.int .i64 xk, .int .i64 xn, .slice a9 l9 c9] 25)).heap[x9.heap.size]? = some (Obj.cells #[.int .i64 xk, .int .i64 xn, .slice a9 l9 c9] 25) ∧ SlF (x9.alloc (.cells #[.int .i64 xk, .int .i64 xn, .slice a9 l9 c9] 25)) a9 l9 xd) := ⟨grown_trans XE.out.1 gg, (gg.block _ (lt_of_block XE.out.2.1) (by simp)).trans XE.out.2.1, XE.out.2.2.1.none gg, heap_alloc_new x9 _, (hN9.1.old ga).reads⟩
            clear C17 hg hN9 ga gg XE y0 y1 y2
            simp only []
            go_upto_region 18 with fail
            generalize x9.alloc (.cells #[.int .i64 xk, .int .i64 xn, .slice a9 l9 c9] 25) = x10 at *
            generalize x9.heap.size = q19 at *
            have CS : Hid _ := sameTyT (xd.size + 1) xd xd xk xn xk xn a9 ax l9 c9 lx cx x10 (Nat.lt_succ_self _) XF.out.2.2.2.2 XF.out.2.2.1
            rw [eqV_self] at CS
            obtain ⟨⟨y0, y1, y2⟩, -⟩ := three XF.out.2.1
            obtain ⟨⟨z0, z1, z2⟩, -⟩ := three XF.out.2.2.2.1
            go_wp2_with fail
            refine Calls.mono CS.out ?_
            rintro e x11 ⟨he, hg⟩
            subst he
            have GF : Hid (w.grownBy x11 none) := (FT.out x11 (grown_trans XF.out.1 hg)).2.2.2.2.2
            clear CS hg XF y0 y1 y2 z0 z1 z2 FT
            simp only []
            go_wp2
            go_ret
            exact ⟨rfl, GF.out⟩
end Go.Proofs.Ytmlganaiajhjeaa.By
