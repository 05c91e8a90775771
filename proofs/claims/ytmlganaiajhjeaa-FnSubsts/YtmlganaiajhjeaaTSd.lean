/-
  The walk of laws.FnSubsts. No statement is proved here.
-/
import Derived.Test.YtmlganaiajhjeaaTSc
import Derived.Test.YtmlganaiajhjeaaTDc
import Derived.Test.YtmlganaiajhjeaaTSize
namespace Go.Proofs.Ytmlganaiajhjeaa.By
open Go.RowKit
set_option linter.unusedVariables false
set_option linter.unusedSimpArgs false

theorem eqV_refl (k n : Int) (d : F) : eqV k n d k n d = true := by
  unfold eqV
  simp [eqB_iff.2 rfl]
theorem OwI.cellV {B n c : Nat} {w : World} {a : Option Addr} {zs : List Int} (h : OwI B w a n c zs) {j : Nat} (hj : j < n) : ∃ b, a = some ⟨b, 0, none⟩ ∧ w.cell? ⟨b, j, none⟩ = some (.int .i64 (zs.getD j 0)) := by
  have hr := h.reads
  rcases hr.2 with h0 | ⟨b, off, e, hc⟩
  · omega
  · rcases h.1.2 with ⟨_, h0⟩ | ⟨g, cap, cur, e1, _⟩
    · omega
    · injection e1 with e2
      rw [e] at e2
      injection e2 with e2
      injection e2 with e3 e4
      subst e3 e4
      exact ⟨b, e, by simpa using hc j hj⟩
theorem getD_mem {zs : List Int} {j : Nat} (hj : j < zs.length) : zs.getD j 0 ∈ zs := by
  rw [List.getD_eq_getElem?_getD, List.getElem?_eq_getElem hj]; exact List.getElem_mem hj



set_option maxRecDepth 8000 in
set_option maxHeartbeats 8000000 in
theorem lawSubsts (a : Option Addr) (n cap : Nat) (zs : List Int) (hz : Byt zs) (w : World) (hr : Reads w a n zs) (hn : n ≤ 9223372036854775807) :
    Calls Try.prog 3 #[.slice a n cap] w fun e u => e = .returned (.bool true) ∧ w.grownBy u none := by
  have C0 : Hid _ := drawSubT a n cap zs w hr hz hn
  obtain ⟨i0, hi, hi0, hi1, hi2⟩ := info_parts infoT
  clear hr
  go_enter Try.func3, Try.ntmps3
  go_wp2_with fail
  refine Calls.mono C0.out ?_
  rintro e v1 ⟨k, m, f, a1, l1, c1, bs, aL, lL, cL, E, bsL, he, hg, hT, hL, hl4, hdis⟩
  subst he
  have ga := World.grownBy_alloc v1 (.cells #[.int .i64 k, .int .i64 m, .slice a1 l1 c1] 25) none
  have LV : Hid (w.grownBy (v1.alloc (.cells #[.int .i64 k, .int .i64 m, .slice a1 l1 c1] 25)) none ∧ (v1.alloc (.cells #[.int .i64 k, .int .i64 m, .slice a1 l1 c1] 25)).heap[v1.heap.size]? = some (Obj.cells #[.int .i64 k, .int .i64 m, .slice a1 l1 c1] 25) ∧ SlF (v1.alloc (.cells #[.int .i64 k, .int .i64 m, .slice a1 l1 c1] 25)) a1 l1 f ∧ SlF (v1.alloc (.cells #[.int .i64 k, .int .i64 m, .slice a1 l1 c1] 25)) aL lL E) := ⟨grown_trans hg ga, heap_alloc_new v1 _, (hT.1.old ga).reads, (hL.1.old ga).reads⟩
  clear C0 hg hT hL hdis ga
  simp only []
  go_wp2
  generalize v1.alloc (.cells #[.int .i64 k, .int .i64 m, .slice a1 l1 c1] 25) = v2 at *
  generalize v1.heap.size = q3 at *
  have FT : Hid (∀ u, v2.grownBy u none → u.heap[q3]? = some (Obj.cells #[.int .i64 k, .int .i64 m, .slice a1 l1 c1] 25) ∧ SlF u a1 l1 f ∧ SlF u aL lL E ∧ w.grownBy u none) := fun u hu => ⟨(hu.block _ (lt_of_block LV.out.2.1) (by simp)).trans LV.out.2.1, LV.out.2.2.1.none hu, LV.out.2.2.2.none hu, grown_trans LV.out.1 hu⟩
  clear LV
  go_loopw [5, 6] (fun v i wr => ∃ (j : Nat) (av : Option Addr) (cv : Nat) (bl : List Nat), j ≤ lL ∧ i = .int .i64 j ∧ v = .slice av j cv ∧ Hid (v2.grownBy wr none ∧ SlO wr 25 av j cv (idF j) bl ∧ bl.Nodup ∧ (∀ y ∈ bl, v2.heap.size ≤ y) ∧ (cv = 0 → av = none))) (fun _ i _ => lL - (intOf i).toNat)
  case atStart => exact ⟨0, none, 0, [], Nat.zero_le _, rfl, rfl, World.grownBy.refl _ _, (New.nil v2 v2 25).1, List.nodup_nil, fun y hy => by simp at hy, fun _ => rfl⟩
  case round =>
    obtain ⟨j, av, cv, bl, hj, rfl, rfl, LI⟩ := hrel
    by_cases hlt : j < lL
    · have hlt' : (j : Int) < lL := by omega
      have ga := World.grownBy_alloc wr (.cells #[.int .i64 7, .int .i64 (j : Int), .slice none 0 0] 25) none
      have bB := three (heap_alloc_new wr (.cells #[.int .i64 7, .int .i64 (j : Int), .slice none 0 0] 25))
      have NW : Hid _ := news3 bB.1.1 bB.1.2.1 bB.1.2.2
      have LC : Hid (v2.grownBy (wr.alloc (.cells #[.int .i64 7, .int .i64 (j : Int), .slice none 0 0] 25)) none ∧ SlO (wr.alloc (.cells #[.int .i64 7, .int .i64 (j : Int), .slice none 0 0] 25)) 25 av j cv (idF j) bl ∧ bl.Nodup ∧ (∀ y ∈ bl, v2.heap.size ≤ y) ∧ (cv = 0 → av = none)) := ⟨grown_trans LI.out.1 ga, LI.out.2.1.old ga, LI.out.2.2.1, LI.out.2.2.2.1, LI.out.2.2.2.2⟩
      clear ga bB LI
      go_wp2_with (at_builtin; go_must (refine wpList_pushT rfl _ _ 23 rfl 25 i0 _ Try.underlying23 hi hi0 hi1 hi2 rfl av j cv (idF j) bl rfl LC.out.2.1 LC.out.2.2.1 LC.out.2.2.2.2 (by omega) ⟨wr.heap.size, 0, none⟩ rfl 7 (j : Int) none 0 0 NW.out .nil [] ⟨rfl, by omega, by omega, .inl ⟨rfl, rfl⟩⟩ List.nodup_nil (fun _ _ h => by simp at h) ?_); intro a3 c3 bs3 y3 h1 h2 h3 h4 h5)
      have LN : Hid (v2.grownBy y3 none ∧ SlO y3 25 a3 (j + 1) c3 (idF (j + 1)) bs3 ∧ bs3.Nodup ∧ (∀ y ∈ bs3, v2.heap.size ≤ y) ∧ (c3 = 0 → a3 = none)) := ⟨Tn.fresh LC.out.1 h4 LC.out.2.2.2.1, h1, h2, fun y hy => by
        rcases h3 y hy with hy | hy | hy
        · exact LC.out.2.2.2.1 y hy
        · simp at hy
        · exact Nat.le_trans LC.out.1.size hy, fun h => by omega⟩
      clear h1 h2 h3 h4 h5 LC NW
      go_roundw
      case rel => exact ⟨j + 1, a3, c3, bs3, by omega, by go_num, rfl, LN⟩
      case measure => simp [intOf]; omega
    · obtain rfl : j = lL := by omega
      have LS : Hid (v2.grownBy wr none ∧ SlF wr av j (idF j)) := ⟨LI.out.1, LI.out.2.1.reads⟩
      clear LI
      have CX : Hid _ := implTySubstT f k m a1 l1 c1 (idF j) av j cv wr (FT.out wr LS.out.1).2.1 LS.out.2
      have HR : Hid (okT k m f = true → subOk (idF j) k m f = true ∧ subR (idF j) k m f = (k, m, f)) := fun h => sub_id (by omega) h
      generalize subR (idF j) k m f = RR at *
      obtain ⟨rk, rn, rd⟩ := RR
      generalize subOk (idF j) k m f = tb at *
      simp only [] at CX
      obtain ⟨⟨y0, y1, y2⟩, -⟩ := three (FT.out wr LS.out.1).1
      go_wp2_with fail
      refine Calls.mono CX.out ?_
      rintro e x1 ⟨ax, lx, cx, bsx, he, hg, hN⟩
      subst he
      have ga := World.grownBy_alloc x1 (.cells #[.int .i64 rk, .int .i64 rn, .slice ax lx cx] 25) none
      have LX : Hid (v2.grownBy (x1.alloc (.cells #[.int .i64 rk, .int .i64 rn, .slice ax lx cx] 25)) none ∧ (x1.alloc (.cells #[.int .i64 rk, .int .i64 rn, .slice ax lx cx] 25)).heap[x1.heap.size]? = some (Obj.cells #[.int .i64 rk, .int .i64 rn, .slice ax lx cx] 25) ∧ SlF (x1.alloc (.cells #[.int .i64 rk, .int .i64 rn, .slice ax lx cx] 25)) ax lx rd) := ⟨grown_trans (grown_trans LS.out.1 hg) ga, heap_alloc_new x1 _, (hN.1.old ga).reads⟩
      clear CX hg hN ga LS y0 y1 y2
      simp only []
      go_upto_region 8 with fail
      generalize x1.alloc (.cells #[.int .i64 rk, .int .i64 rn, .slice ax lx cx] 25) = x2 at *
      generalize x1.heap.size = q7 at *
      go_cut [48] (fun s wx => s = .bool false ∧ Hid (v2.grownBy wx none))
      case first =>
        obtain ⟨⟨y0, y1, y2⟩, -⟩ := three (FT.out x2 LX.out.1).1
        have CO : Hid _ := specTyOkT f k m a1 l1 c1 x2 (FT.out x2 LX.out.1).2.1
        go_wp2_with fail
        refine Calls.mono CO.out ?_
        rintro e x3 ⟨he, hg⟩
        subst he
        have LY : Hid (v2.grownBy x3 none ∧ x3.heap[q7]? = some (Obj.cells #[.int .i64 rk, .int .i64 rn, .slice ax lx cx] 25) ∧ SlF x3 ax lx rd) := ⟨grown_trans LX.out.1 hg, (hg.block _ (lt_of_block LX.out.2.1) (by simp)).trans LX.out.2.1, LX.out.2.2.none hg⟩
        clear hg CO LX y0 y1 y2
        simp only []
        cases hok : okT k m f with
        | false =>
          clear HR
          go_wp2
          go_meet
          case rel => exact ⟨rfl, LY.out.1⟩
        | true =>
          obtain ⟨e1, e2⟩ := HR.out hok
          subst e1
          injection e2 with e2 e3
          injection e3 with e3 e4
          subst e2 e3 e4
          obtain ⟨⟨y0, y1, y2⟩, -⟩ := three (FT.out x3 LY.out.1).1
          obtain ⟨⟨z0, z1, z2⟩, -⟩ := three LY.out.2.1
          have CE := sameTyT (rd.size + 1) rd rd rk rn rk rn ax a1 lx cx l1 c1 x3 (Nat.lt_succ_self _) LY.out.2.2 (FT.out x3 LY.out.1).2.1
          rw [eqV_refl] at CE
          have CH : Hid _ := CE
          clear HR CE
          go_wp2_with fail
          refine Calls.mono CH.out ?_
          rintro e x4 ⟨he, hg⟩
          subst he
          have LZ : Hid (v2.grownBy x4 none) := grown_trans LY.out.1 hg
          clear hg CH LY y0 y1 y2 z0 z1 z2
          simp only []
          go_wp2
          go_meet
          case rel => exact ⟨rfl, LZ⟩
      case rest =>
        clear LX HR
        obtain ⟨rfl, HG⟩ := hcut
        obtain ⟨⟨y0, y1, y2⟩, -⟩ := three (FT.out wc HG.out).1
        have CX : Hid _ := implTySubstT f k m a1 l1 c1 E aL j cL wc (FT.out wc HG.out).2.1 (FT.out wc HG.out).2.2.1
        have HP : Hid (subOk E k m f = true → ∀ v ∈ varsV k m f, 0 ≤ v ∧ match E.nth v.toNat with
          | some x => ∀ u ∈ varsV x.1 x.2.1 x.2.2, u ∈ varsV (subR E k m f).1 (subR E k m f).2.1 (subR E k m f).2.2
          | none => v ∈ varsV (subR E k m f).1 (subR E k m f).2.1 (subR E k m f).2.2) := fun h => put_vars h
        have HQ : Hid (subOk E k m f = false → subR E k m f = (0, 0, .nil)) := fun h => subR_no h
        generalize subR E k m f = RY at *
        obtain ⟨yk, yn, yf⟩ := RY
        generalize subOk E k m f = fb at *
        simp only [] at CX HP
        go_wp2_with fail
        refine Calls.mono CX.out ?_
        rintro e y1' ⟨ya, yl, yc, bsy, he, hg, hN⟩
        subst he
        have ga := World.grownBy_alloc y1' (.cells #[.int .i64 yk, .int .i64 yn, .slice ya yl yc] 25) none
        have LX : Hid (v2.grownBy (y1'.alloc (.cells #[.int .i64 yk, .int .i64 yn, .slice ya yl yc] 25)) none ∧ (y1'.alloc (.cells #[.int .i64 yk, .int .i64 yn, .slice ya yl yc] 25)).heap[y1'.heap.size]? = some (Obj.cells #[.int .i64 yk, .int .i64 yn, .slice ya yl yc] 25) ∧ SlF (y1'.alloc (.cells #[.int .i64 yk, .int .i64 yn, .slice ya yl yc] 25)) ya yl yf) := ⟨grown_trans (grown_trans HG.out hg) ga, heap_alloc_new y1' _, (hN.1.old ga).reads⟩
        clear CX hg hN ga HG y0 y1 y2
        simp only []
        go_upto_region 11 with fail
        generalize y1'.alloc (.cells #[.int .i64 yk, .int .i64 yn, .slice ya yl yc] 25) = y2' at *
        generalize y1'.heap.size = q9 at *
        cases fb with
        | false =>
          have e0 := HQ.out rfl
          injection e0 with e1 e2
          injection e2 with e2 e3
          subst e1 e2 e3
          obtain ⟨⟨z0, z1, z2⟩, -⟩ := three LX.out.2.1
          have CZ := implTySizeT .nil 0 0 none 0 0 y2' (New.nil y2' y2' 25).1.reads
          have ev : tyV 0 0 0 .nil 10 60 = 1 := by decide
          rw [ev] at CZ
          have CH : Hid _ := CZ
          clear HP HQ CZ
          go_wp2_with fail
          refine Calls.mono CH.out ?_
          rintro e y3 ⟨he, hg⟩
          subst he
          have LZ : Hid (w.grownBy y3 none ∧ y3.heap[q9]? = some (Obj.cells #[.int .i64 0, .int .i64 0, .slice ya yl yc] 25)) := ⟨(FT.out y3 (grown_trans LX.out.1 hg)).2.2.2, (hg.block _ (lt_of_block LX.out.2.1) (by simp)).trans LX.out.2.1⟩
          clear hg CH LX z0 z1 z2
          obtain ⟨⟨z0, z1, z2⟩, -⟩ := three LZ.out.2
          simp only []
          go_wp2
          go_ret
          exact ⟨rfl, LZ.out.1⟩
        | true =>
          have HV : Hid _ := HP.out rfl
          clear HP HQ
          obtain ⟨⟨y0, y1, y2⟩, -⟩ := three (FT.out y2' LX.out.1).1
          have CV : Hid _ := specTyVarsT f k m a1 l1 c1 y2' (FT.out y2' LX.out.1).2.1
          go_wp2_with fail
          refine Calls.mono CV.out ?_
          rintro e y3 ⟨va, vc, he, hg, hO⟩
          subst he
          have hvl := varsV_len k m f
          generalize varsV k m f = VS at *
          have FR : Hid (∀ u, y3.grownBy u none → v2.grownBy u none ∧ u.heap[q9]? = some (Obj.cells #[.int .i64 yk, .int .i64 yn, .slice ya yl yc] 25) ∧ SlF u ya yl yf ∧ OwI y2'.heap.size u va VS.length vc VS) := fun u hu => ⟨grown_trans (grown_trans LX.out.1 hg) hu, (hu.block _ (Nat.lt_of_lt_of_le (lt_of_block LX.out.2.1) hg.size) (by simp)).trans ((hg.block _ (lt_of_block LX.out.2.1) (by simp)).trans LX.out.2.1), (LX.out.2.2.none hg).none hu, hO.kept hu⟩
          clear hg hO CV LX y0 y1 y2
          simp only []
          go_wp2
          go_loopw [12] (fun i wr => ∃ p : Nat, p ≤ VS.length ∧ i = .int .i64 p ∧ Hid (y3.grownBy wr none)) (fun i _ => VS.length - (intOf i).toNat)
          case atStart => exact ⟨0, Nat.zero_le _, rfl, World.grownBy.refl _ _⟩
          case round =>
            obtain ⟨p, hp, rfl, HG⟩ := hrel
            by_cases hlt : p < VS.length
            · have hlt' : (p : Int) < VS.length := by omega
              have hmem := getD_mem hlt
              have HC : Hid (∀ u, y3.grownBy u none → ∃ b, va = some ⟨b, 0, none⟩ ∧ u.cell? ⟨b, p, none⟩ = some (.int .i64 (VS.getD p 0))) := fun u hu => (FR.out u hu).2.2.2.cellV hlt
              have HE : Hid (∃ v, VS.getD p 0 = v) := ⟨_, rfl⟩
              obtain ⟨v, hv⟩ := HE.out
              rw [hv] at hmem HC
              obtain ⟨hv0, hvm⟩ := HV.out v hmem
              obtain ⟨vn, rfl⟩ : ∃ vn : Nat, v = (vn : Int) := ⟨v.toNat, by omega⟩
              rw [Int.toNat_natCast] at hvm
              obtain ⟨vb, rfl, -⟩ := HC.out _ (World.grownBy.refl _ _)
              have HD : Hid (∀ u, y3.grownBy u none → u.cell? ⟨vb, p, none⟩ = some (.int .i64 (vn : Int))) := fun u hu => by
                obtain ⟨b, e, h⟩ := HC.out u hu
                injection e with e
                injection e with e
                subst e
                exact h
              have hcell := HD.out _ HG.out
              clear HE hv hmem hv0 HC
              by_cases hvj : vn < j
              · have hvj' : (vn : Int) < (j : Int) := by omega
                have hS := (FT.out _ (FR.out _ HG.out).1).2.2.1
                rcases hS.cases with ⟨h1, h2⟩ | ⟨b, o, h1, hin, -, hpos⟩
                · omega
                subst h1
                obtain ⟨xk, xn, xd, xa, xl, xc, hx, z0, z1, z2, hxd⟩ := hin.nth (i := vn) (by rw [hS.1]; exact hvj)
                rw [hx] at hvm
                simp only [] at hvm
                have CV : Hid _ := specTyVarsT xd xk xn xa xl xc _ hxd
                have HM0 : Hid (∀ u ∈ varsV xk xn xd, u ∈ varsV yk yn yf) := hvm
                clear hS hin hxd hx hvm
                go_wp2_with fail
                refine Calls.mono CV.out ?_
                rintro e z3 ⟨ia, ic, he, hg, hO⟩
                subst he
                have hil := varsV_len xk xn xd
                generalize varsV xk xn xd = IS at *
                have FI : Hid (∀ u, z3.grownBy u none → y3.grownBy u none ∧ OwI _ u ia IS.length ic IS) := fun u hu => ⟨grown_trans (grown_trans HG.out hg) hu, hO.kept hu⟩
                clear hg hO CV HG HD hcell z0 z1 z2
                simp only []
                go_wp2
                go_loopw [14] (fun i wq => ∃ r : Nat, r ≤ IS.length ∧ i = .int .i64 r ∧ Hid (z3.grownBy wq none)) (fun i _ => IS.length - (intOf i).toNat)
                case atStart => exact ⟨0, Nat.zero_le _, rfl, World.grownBy.refl _ _⟩
                case round =>
                  obtain ⟨r, hr2, rfl, HG⟩ := hrel
                  by_cases hlt2 : r < IS.length
                  · have hlt2' : (r : Int) < IS.length := by omega
                    have hmem := getD_mem hlt2
                    have HC : Hid (∀ u, z3.grownBy u none → ∃ b, ia = some ⟨b, 0, none⟩ ∧ u.cell? ⟨b, r, none⟩ = some (.int .i64 (IS.getD r 0))) := fun u hu => (FI.out u hu).2.cellV hlt2
                    have HE : Hid (∃ v, IS.getD r 0 = v) := ⟨_, rfl⟩
                    obtain ⟨rv, hrv⟩ := HE.out
                    rw [hrv] at hmem HC
                    have HM : Hid (decide (rv ∈ varsV yk yn yf) = true) := by show _ = _; simp only [decide_eq_true_eq]; exact HM0.out rv hmem
                    obtain ⟨rb, rfl, -⟩ := HC.out _ (World.grownBy.refl _ _)
                    have FB : Hid (∀ u, z3.grownBy u none → Tri q9 0 (.int .i64 yk) (.int .i64 yn) (.slice ya yl yc) u ∧ u.cell? ⟨rb, r, none⟩ = some (.int .i64 rv) ∧ SlF u ya yl yf) := fun u hu => ⟨(three (FR.out u (FI.out u hu).1).2.1).1, by
                      obtain ⟨b, e, h⟩ := HC.out u hu
                      injection e with e
                      injection e with e
                      subst e
                      exact h, (FR.out u (FI.out u hu).1).2.2.1⟩
                    clear HE hrv hmem HC
                    go_upto_region 22 with fail
                    have AD : Hid (z3.grownBy wr.drew none) := grown_drew HG.out
                    clear HG
                    refine wp_region_held_drew (S := (fun u => Tri q9 0 (.int .i64 yk) (.int .i64 yn) (.slice ya yl yc) u ∧ u.cell? ⟨rb, r, none⟩ = some (.int .i64 rv))) (by kernel_rfl) ⟨(FB.out _ AD.out).1, (FB.out _ AD.out).2.1⟩ (fun hH => ?_)
                    generalize wr.drew = t0 at *
                    simp only [List.size_toArray, List.length_cons, List.length_nil, Nat.reduceAdd, Array.replicate, List.replicate]
                    refine wpAnyH_take (i := 0) (v := ?_) rfl (by kernel_rfl) (by kernel_rfl) (by kernel_rfl) (fun _ _ _ h => h) (Or.inl ⟨by rfl, ?_⟩) hH ?_
                    rotate_left
                    · (intro v hS; obtain ⟨⟨s0, s1, s2⟩, s3⟩ := hS; go_simp; try with_reducible rfl)
                    simp only [Act.put, List.setIfInBounds_toArray, List.set_cons_zero, List.set_cons_succ, List.getElem_toArray, List.getElem_cons_succ, List.getElem_cons_zero]
                    refine wpAnyH_take (i := 2) (v := ?_) rfl (by kernel_rfl) (by kernel_rfl) (by kernel_rfl) (fun _ _ _ h => h) (Or.inl ⟨by rfl, ?_⟩) hH ?_
                    rotate_left
                    · (intro v hS; obtain ⟨⟨s0, s1, s2⟩, s3⟩ := hS; go_simp; try with_reducible rfl)
                    simp only [Act.put, List.setIfInBounds_toArray, List.set_cons_zero, List.set_cons_succ, List.getElem_toArray, List.getElem_cons_succ, List.getElem_cons_zero]
                    refine wpAnyH_take (i := 3) (v := ?_) rfl (by kernel_rfl) (by kernel_rfl) (by kernel_rfl) (fun _ _ _ h => h) (Or.inl ⟨by rfl, ?_⟩) hH ?_
                    rotate_left
                    · (intro v hS; obtain ⟨⟨s0, s1, s2⟩, s3⟩ := hS; go_simp; try with_reducible rfl)
                    simp only [Act.put, List.setIfInBounds_toArray, List.set_cons_zero, List.set_cons_succ, List.getElem_toArray, List.getElem_cons_succ, List.getElem_cons_zero]
                    refine wpAnyH_take (i := 4) (v := ?_) rfl (by kernel_rfl) (by kernel_rfl) (by kernel_rfl) (fun _ _ _ h => h) (Or.inl ⟨by rfl, ?_⟩) hH ?_
                    rotate_left
                    · (intro v hS; obtain ⟨⟨s0, s1, s2⟩, s3⟩ := hS; go_simp; try with_reducible rfl)
                    simp only [Act.put, List.setIfInBounds_toArray, List.set_cons_zero, List.set_cons_succ, List.getElem_toArray, List.getElem_cons_succ, List.getElem_cons_zero]
                    refine wpAnyH_take (i := 5) (v := ?_) rfl (by kernel_rfl) (by kernel_rfl) (by kernel_rfl) (fun _ _ _ h => h) (Or.inl ⟨by rfl, ?_⟩) hH ?_
                    rotate_left
                    · (intro v hS; obtain ⟨⟨s0, s1, s2⟩, s3⟩ := hS; go_simp; try with_reducible rfl)
                    simp only [Act.put, List.setIfInBounds_toArray, List.set_cons_zero, List.set_cons_succ, List.getElem_toArray, List.getElem_cons_succ, List.getElem_cons_zero]
                    refine wpAnyH_ready (rs := [1]) (by kernel_rfl) (by simp) ?_
                    refine AllReadyH.cons rfl (fun K hK => ?_) AllReadyH.nil
                    go_simp
                    refine Calls.mono (implTyVarsT yf yk yn ya yl yc t0 (FB.out _ AD.out).2.2) ?_
                    rintro e t1 ⟨va, vc, he, hg, hO⟩
                    subst he
                    have AE : Hid (z3.grownBy t1 none ∧ ReadsI t1 va (varsV yk yn yf).length (varsV yk yn yf)) := ⟨grown_trans AD.out hg, hO.reads⟩
                    refine hK.out _ _ ⟨(FB.out _ AE.out.1).1, (FB.out _ AE.out.1).2.1⟩ (fun hH2 => ?_)
                    clear hg hO AD
                    clear hK K hH
                    have hH := hH2
                    clear hH2
                    simp only [Act.put, List.setIfInBounds_toArray, List.set_cons_zero, List.set_cons_succ, List.getElem_toArray, List.getElem_cons_succ, List.getElem_cons_zero]
                    refine wpAnyH_ready (rs := [6]) (by kernel_rfl) (by simp) ?_
                    refine AllReadyH.cons rfl (fun K hK => ?_) AllReadyH.nil
                    go_simp
                    refine Calls.mono (hasT va (varsV yk yn yf).length vc (varsV yk yn yf) rv t1 AE.out.2 (by have := varsV_len yk yn yf; omega)) ?_
                    rintro e t2 ⟨he, hg⟩
                    rw [HM.out] at he
                    subst he
                    have HG : Hid (z3.grownBy t2 none) := grown_trans AE.out.1 hg
                    refine hK.out _ _ ⟨(FB.out _ HG.out).1, (FB.out _ HG.out).2.1⟩ (fun hH2 => ?_)
                    clear hg AE
                    clear hK K hH
                    have hH := hH2
                    clear hH2
                    simp only [Act.put, List.setIfInBounds_toArray, List.set_cons_zero, List.set_cons_succ, List.getElem_toArray, List.getElem_cons_succ, List.getElem_cons_zero]
                    refine wpAnyH_take (i := 7) (v := ?_) rfl (by kernel_rfl) (by kernel_rfl) (by kernel_rfl) (fun _ _ _ h => h) (Or.inl ⟨by rfl, ?_⟩) hH ?_
                    rotate_left
                    · (intro v hS; go_simp; try with_reducible rfl)
                    simp only [Act.put, List.setIfInBounds_toArray, List.set_cons_zero, List.set_cons_succ, List.getElem_toArray, List.getElem_cons_succ, List.getElem_cons_zero]
                    refine wpAnyH_done (by kernel_rfl) ?_ _
                    clear hH HM
                    go_wp2
                    go_roundw
                    case rel => exact ⟨r + 1, by omega, by go_num, HG⟩
                    case measure => simp [intOf]; omega
                  · obtain rfl : r = IS.length := by omega
                    have HG' : Hid (y3.grownBy wr none) := (FI.out _ HG.out).1
                    clear HG FI HM0
                    go_wp2
                    go_roundw
                    case rel => exact ⟨p + 1, by omega, by go_num, HG'⟩
                    case measure => simp [intOf]; omega
              · have hvj' : ¬ (vn : Int) < (j : Int) := by omega
                have hS := (FT.out _ (FR.out _ HG.out).1).2.2.1
                have hx : E.nth vn = none := F.nth_none (by rw [hS.1]; omega)
                rw [hx] at hvm
                simp only [] at hvm
                have HM : Hid (decide ((vn : Int) ∈ varsV yk yn yf) = true) := by show _ = _; simp only [decide_eq_true_eq]; exact hvm
                have FB : Hid (∀ u, y3.grownBy u none → Tri q9 0 (.int .i64 yk) (.int .i64 yn) (.slice ya yl yc) u ∧ u.cell? ⟨vb, p, none⟩ = some (.int .i64 (vn : Int)) ∧ SlF u ya yl yf) := fun u hu => ⟨(three (FR.out u hu).2.1).1, HD.out u hu, (FR.out u hu).2.2.1⟩
                clear hS hx hvm
                go_upto_region 24 with fail
                clear hcell
                have AD : Hid (y3.grownBy wr.drew none) := grown_drew HG.out
                clear HG
                refine wp_region_held_drew (S := (fun u => Tri q9 0 (.int .i64 yk) (.int .i64 yn) (.slice ya yl yc) u ∧ u.cell? ⟨vb, p, none⟩ = some (.int .i64 (vn : Int)))) (by kernel_rfl) ⟨(FB.out _ AD.out).1, (FB.out _ AD.out).2.1⟩ (fun hH => ?_)
                generalize wr.drew = t0 at *
                simp only [List.size_toArray, List.length_cons, List.length_nil, Nat.reduceAdd, Array.replicate, List.replicate]
                refine wpAnyH_take (i := 0) (v := ?_) rfl (by kernel_rfl) (by kernel_rfl) (by kernel_rfl) (fun _ _ _ h => h) (Or.inl ⟨by rfl, ?_⟩) hH ?_
                rotate_left
                · (intro v hS; obtain ⟨⟨s0, s1, s2⟩, s3⟩ := hS; go_simp; try with_reducible rfl)
                simp only [Act.put, List.setIfInBounds_toArray, List.set_cons_zero, List.set_cons_succ, List.getElem_toArray, List.getElem_cons_succ, List.getElem_cons_zero]
                refine wpAnyH_take (i := 2) (v := ?_) rfl (by kernel_rfl) (by kernel_rfl) (by kernel_rfl) (fun _ _ _ h => h) (Or.inl ⟨by rfl, ?_⟩) hH ?_
                rotate_left
                · (intro v hS; obtain ⟨⟨s0, s1, s2⟩, s3⟩ := hS; go_simp; try with_reducible rfl)
                simp only [Act.put, List.setIfInBounds_toArray, List.set_cons_zero, List.set_cons_succ, List.getElem_toArray, List.getElem_cons_succ, List.getElem_cons_zero]
                refine wpAnyH_take (i := 3) (v := ?_) rfl (by kernel_rfl) (by kernel_rfl) (by kernel_rfl) (fun _ _ _ h => h) (Or.inl ⟨by rfl, ?_⟩) hH ?_
                rotate_left
                · (intro v hS; obtain ⟨⟨s0, s1, s2⟩, s3⟩ := hS; go_simp; try with_reducible rfl)
                simp only [Act.put, List.setIfInBounds_toArray, List.set_cons_zero, List.set_cons_succ, List.getElem_toArray, List.getElem_cons_succ, List.getElem_cons_zero]
                refine wpAnyH_take (i := 4) (v := ?_) rfl (by kernel_rfl) (by kernel_rfl) (by kernel_rfl) (fun _ _ _ h => h) (Or.inl ⟨by rfl, ?_⟩) hH ?_
                rotate_left
                · (intro v hS; obtain ⟨⟨s0, s1, s2⟩, s3⟩ := hS; go_simp; try with_reducible rfl)
                simp only [Act.put, List.setIfInBounds_toArray, List.set_cons_zero, List.set_cons_succ, List.getElem_toArray, List.getElem_cons_succ, List.getElem_cons_zero]
                refine wpAnyH_take (i := 5) (v := ?_) rfl (by kernel_rfl) (by kernel_rfl) (by kernel_rfl) (fun _ _ _ h => h) (Or.inl ⟨by rfl, ?_⟩) hH ?_
                rotate_left
                · (intro v hS; obtain ⟨⟨s0, s1, s2⟩, s3⟩ := hS; go_simp; try with_reducible rfl)
                simp only [Act.put, List.setIfInBounds_toArray, List.set_cons_zero, List.set_cons_succ, List.getElem_toArray, List.getElem_cons_succ, List.getElem_cons_zero]
                refine wpAnyH_ready (rs := [1]) (by kernel_rfl) (by simp) ?_
                refine AllReadyH.cons rfl (fun K hK => ?_) AllReadyH.nil
                go_simp
                refine Calls.mono (implTyVarsT yf yk yn ya yl yc t0 (FB.out _ AD.out).2.2) ?_
                rintro e t1 ⟨va, vc, he, hg, hO⟩
                subst he
                have AE : Hid (y3.grownBy t1 none ∧ ReadsI t1 va (varsV yk yn yf).length (varsV yk yn yf)) := ⟨grown_trans AD.out hg, hO.reads⟩
                refine hK.out _ _ ⟨(FB.out _ AE.out.1).1, (FB.out _ AE.out.1).2.1⟩ (fun hH2 => ?_)
                clear hg hO AD
                clear hK K hH
                have hH := hH2
                clear hH2
                simp only [Act.put, List.setIfInBounds_toArray, List.set_cons_zero, List.set_cons_succ, List.getElem_toArray, List.getElem_cons_succ, List.getElem_cons_zero]
                refine wpAnyH_ready (rs := [6]) (by kernel_rfl) (by simp) ?_
                refine AllReadyH.cons rfl (fun K hK => ?_) AllReadyH.nil
                go_simp
                refine Calls.mono (hasT va (varsV yk yn yf).length vc (varsV yk yn yf) (vn : Int) t1 AE.out.2 (by have := varsV_len yk yn yf; omega)) ?_
                rintro e t2 ⟨he, hg⟩
                rw [HM.out] at he
                subst he
                have HG : Hid (y3.grownBy t2 none) := grown_trans AE.out.1 hg
                refine hK.out _ _ ⟨(FB.out _ HG.out).1, (FB.out _ HG.out).2.1⟩ (fun hH2 => ?_)
                clear hg AE
                clear hK K hH
                have hH := hH2
                clear hH2
                simp only [Act.put, List.setIfInBounds_toArray, List.set_cons_zero, List.set_cons_succ, List.getElem_toArray, List.getElem_cons_succ, List.getElem_cons_zero]
                refine wpAnyH_take (i := 7) (v := ?_) rfl (by kernel_rfl) (by kernel_rfl) (by kernel_rfl) (fun _ _ _ h => h) (Or.inl ⟨by rfl, ?_⟩) hH ?_
                rotate_left
                · (intro v hS; go_simp; try with_reducible rfl)
                simp only [Act.put, List.setIfInBounds_toArray, List.set_cons_zero, List.set_cons_succ, List.getElem_toArray, List.getElem_cons_succ, List.getElem_cons_zero]
                refine wpAnyH_done (by kernel_rfl) ?_ _
                clear hH HM
                go_wp2
                go_roundw
                case rel => exact ⟨p + 1, by omega, by go_num, HG⟩
                case measure => simp [intOf]; omega
            · obtain rfl : p = VS.length := by omega
              have LZ : Hid (w.grownBy _ none) := (FT.out _ (FR.out _ HG.out).1).2.2.2
              clear HG
              go_wp2
              go_ret
              exact ⟨rfl, LZ.out⟩
end Go.Proofs.Ytmlganaiajhjeaa.By
