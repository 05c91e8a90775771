/-
  Several texts in one (XB, XC). No statement is proved here.
-/
import Derived.Test.YtpdkgmagjhibkaaGreatDoorXAAlso
import Derived.Test.YtpdkgmagjhibkaaGreatDoorTVlAlso
namespace Go.Proofs.YtpdkgmagjhibkaaGreatDoor.By
open Go.RowKit Go.Sort
set_option linter.unusedVariables false
set_option linter.unusedSimpArgs false

set_option maxRecDepth 8000 in
set_option maxHeartbeats 4000000 in
theorem specCapsT (x : RProg) (a1 : Option Addr) (l1 c1 : Nat) (a2 : Option Addr) (l2 c2 : Nat) (a3 : Option Addr) (l3 c3 : Nat) (w : World) (h : RdProg w x a1 l1 a2 l2 a3 l3) :
    Calls Tryz.prog 17 #[.agg #[.slice a1 l1 c1, .slice a2 l2 c2, .slice a3 l3 c3]] w fun e u => ∃ a' c', e = .returned (.slice a' (capsOfV x).length c') ∧ w.grownBy u none ∧ OwI w.heap.size u a' (capsOfV x).length c' (capsOfV x) := by
  obtain ⟨i0, hi, hz0, hz1, hz2⟩ := info_parts infoV
  have g0 := World.grownBy_alloc w (.cells #[.slice a1 l1 c1, .slice a2 l2 c2, .slice a3 l3 c3] 32) none
  have b0 := heap_alloc_new w (.cells #[.slice a1 l1 c1, .slice a2 l2 c2, .slice a3 l3 c3] 32)
  have C0 : Hid _ := specProgT x a1 l1 c1 a2 l2 c2 a3 l3 c3 (w.alloc (.cells #[.slice a1 l1 c1, .slice a2 l2 c2, .slice a3 l3 c3] 32)) (h.none g0)
  have L0 : Hid (w.grownBy _ none ∧ _ = some (Obj.cells #[.slice a1 l1 c1, .slice a2 l2 c2, .slice a3 l3 c3] 32)) := ⟨g0, b0⟩
  have H0 : Hid (RdProg w x a1 l1 a2 l2 a3 l3) := h
  have e2 : x.blks.length = l2 := h.2.1.1
  have m2 := h.2.1.2.1
  have HBY : Hid (∀ b ob, a2 = some ⟨b, ob, none⟩ → 0 < l2 → InBlock w w x.blks b ob) := fun b ob e hp => by
    rcases H0.out.2.1.cases with ⟨h, _⟩ | ⟨b', ob', h, hi, _⟩
    · omega
    · rw [e] at h; injection h with h; injection h with h1 h2; subst h1 h2; exact hi
  have HBA : Hid (0 < l2 → ∃ b ob, a2 = some ⟨b, ob, none⟩) := fun hp => by
    rcases H0.out.2.1.cases with ⟨h, _⟩ | ⟨b', ob', h, hi, _⟩
    · omega
    · exact ⟨b', ob', h⟩
  obtain ⟨⟨y0, y1, y2⟩, -⟩ := blkProg b0
  clear h g0 b0 H0
  go_enter Tryz.func17, Tryz.ntmps17
  go_wp2_with fail
  refine Calls.mono C0.out ?_
  rintro e u0 ⟨he, hg⟩
  subst he
  have L1 : Hid (w.grownBy u0 none ∧ u0.heap[w.heap.size]? = some (Obj.cells #[.slice a1 l1 c1, .slice a2 l2 c2, .slice a3 l3 c3] 32)) := ⟨grown_trans L0.out.1 hg, (hg.block _ (lt_of_block L0.out.2) (by simp)).trans L0.out.2⟩
  clear C0 L0 hg y0 y1 y2
  obtain ⟨p0, hp0⟩ : ∃ p0, p0 = w.heap.size := ⟨_, rfl⟩
  rw [← hp0] at L1
  simp only [← hp0]
  clear hp0
  obtain ⟨⟨y0, y1, y2⟩, -⟩ := blkProg L1.out.2
  cases hb : okP x with
  | false =>
    have E : Hid (capsOfV x = []) := by show _ = _; unfold capsOfV; rw [hb]; rfl
    go_wp2
    go_ret
    exact ⟨none, 0, by rw [E.out]; rfl, L1.out.1, by rw [E.out]; exact OwI.nil _ _⟩
  | true =>
    have E : Hid (capsOfV x = insL [] (capK x.blks)) := by show _ = _; unfold capsOfV; rw [if_pos hb]
    have hkl := capK_len2 hb
    clear hb
    go_wp2
    clear y0 y1 y2
    go_loopw [3, 4] (fun vv i wr => ∃ (j : Nat) (P Q : List RBlock), j ≤ l2 ∧ i = .int .i64 j ∧ P.length = j ∧ Q.length + j = l2 ∧ Hid ((w.grownBy wr none ∧ wr.heap[p0]? = some (Obj.cells #[.slice a1 l1 c1, .slice a2 l2 c2, .slice a3 l3 c3] 32) ∧ ∃ a n c, vv = .slice a n c ∧ OwI w.heap.size wr a n c (insL [] (capK P))) ∧ P ++ Q = x.blks ∧ ∀ b ob, a2 = some ⟨b, ob, none⟩ → 0 < l2 → InBlock w w Q b (ob + j * 9))) (fun _ i _ => l2 - (intOf i).toNat)
    case atStart => exact ⟨0, [], x.blks, Nat.zero_le _, rfl, rfl, by omega, ⟨L1.out.1, L1.out.2, none, 0, 0, rfl, OwI.nil _ _⟩, rfl, fun b ob e hp => by simpa using HBY.out b ob e hp⟩
    case round =>
      clear L1
      obtain ⟨j, P, Q, hj, rfl, hPl, hQl, HQ⟩ := hrel
      obtain ⟨⟨y0, y1, y2⟩, -⟩ := blkProg HQ.out.1.2.1
      by_cases hlt : j < l2
      · obtain ⟨y, Q', rfl⟩ : ∃ x R', Q = x :: R' := by
          cases Q with
          | nil => simp at hQl; omega
          | cons x R' => exact ⟨x, R', rfl⟩
        obtain ⟨b, ob, rfl⟩ := HBA.out (by omega)
        simp only [List.length_cons] at hQl
        obtain ⟨⟨hg, hbx, av, nv, cv, hvv, hO⟩, hcs, hin⟩ := HQ.out
        subst hvv
        obtain ⟨⟨e1, f1, g1, e2', f2, g2, e3, f3, g3, e4, f4, g4, e5, f5, g5, ⟨k0, k1, k2, k3, k4, k5, k6, k7, k8⟩, hd⟩, hQ2⟩ := hin b ob rfl (by omega)
        rw [show ob + j * 9 + 9 = ob + (j + 1) * 9 by omega] at hQ2
        have K8 : Hid (w.cell? ⟨b, ob + j * 9 + 8, none⟩ = some (.slice e5 f5 g5)) := k8
        have k8 := hg.cell k8 (by simp)
        have c5' : y.code.length = f5 := hd.2.2.2.2.1
        have cm5 := hd.2.2.2.2.2.1
        have HCY : Hid (∀ b ob, e5 = some ⟨b, ob, none⟩ → 0 < f5 → InIns w w y.code b ob) := fun b ob e hp => by
          rcases hd.2.2.2.2.2.2 with h | ⟨b', ob', h, hi⟩
          · omega
          · rw [e] at h; injection h with h; injection h with h1 h2; subst h1 h2; exact hi
        have HCA2 : Hid (0 < f5 → ∃ b ob, e5 = some ⟨b, ob, none⟩) := fun hp => by
          rcases hd.2.2.2.2.2.2 with h | ⟨b', ob', h, hi⟩
          · omega
          · exact ⟨b', ob', h⟩
        have FX : Hid ((P ++ [y]) ++ Q' = x.blks ∧ (∀ b' ob', some (⟨b, ob, none⟩ : Addr) = some ⟨b', ob', none⟩ → 0 < l2 → InBlock w w Q' b' (ob' + (j + 1) * 9)) ∧ capK (P ++ [y]) = capK P ++ capC y.code) := ⟨by rw [List.append_assoc]; exact hcs, fun b' ob' e _ => by injection e with e; injection e with h1 h2; subst h1 h2; exact hQ2, by rw [capK_app]; simp [capK]⟩
        have N0 : Hid (w.grownBy wr none ∧ wr.heap[p0]? = some (Obj.cells #[.slice a1 l1 c1, .slice (some ⟨b, ob, none⟩) l2 c2, .slice a3 l3 c3] 32) ∧ ∃ a n c, (Value.slice av nv cv) = .slice a n c ∧ OwI w.heap.size wr a n c (insL [] (capK P))) := ⟨hg, hbx, av, nv, cv, rfl, hO⟩
        have hj0 : (0 : Int) ≤ (j : Int) := by omega
        have hj1 : (j : Int) < (l2 : Int) := by omega
        have hpk : (capK P).length + (capC y.code).length ≤ 150000 := by
          have e := FX.out
          have : (capK ((P ++ [y]) ++ Q')).length ≤ 150000 := by rw [e.1]; exact hkl
          rw [capK_app, e.2.2] at this
          simp only [List.length_append] at this
          omega
        clear hg hbx hO hcs hin hd hQ2 HQ k0 k1 k2 k3 k4 k5 k6 k7
        go_wp2
        clear k8 y0 y1 y2
        go_loopw [3, 5] (fun vv i ww => ∃ (n : Nat) (P3 R : List RIns), n ≤ f5 ∧ i = .int .i64 n ∧ P3.length = n ∧ R.length + n = f5 ∧ Hid ((w.grownBy ww none ∧ ww.heap[p0]? = some (Obj.cells #[.slice a1 l1 c1, .slice (some ⟨b, ob, none⟩) l2 c2, .slice a3 l3 c3] 32) ∧ ∃ a n c, vv = .slice a n c ∧ OwI w.heap.size ww a n c (insL [] (capK P ++ capC P3))) ∧ P3 ++ R = y.code ∧ ∀ b ob, e5 = some ⟨b, ob, none⟩ → 0 < f5 → InIns w w R b (ob + n * 5))) (fun _ i _ => f5 - (intOf i).toNat)
        case atStart => exact ⟨0, [], y.code, Nat.zero_le _, rfl, rfl, by omega, by simpa [capC] using N0.out, rfl, fun b ob e hp => by simpa using HCY.out b ob e hp⟩
        case round =>
          clear N0
          obtain ⟨n, P3, R, hn, rfl, hnl, hRl, HR3⟩ := hrel
          obtain ⟨⟨y0, y1, y2⟩, -⟩ := blkProg HR3.out.1.2.1
          have k8 := HR3.out.1.1.cell K8.out (by simp)
          by_cases hlt3 : n < f5
          · obtain ⟨z, R', rfl⟩ : ∃ x R', R = x :: R' := by
              cases R with
              | nil => simp at hRl; omega
              | cons x R' => exact ⟨x, R', rfl⟩
            obtain ⟨b5, o5, rfl⟩ := HCA2.out (by omega)
            obtain ⟨⟨hg, hbx, av, nv, cv, hvv, hO⟩, hcs, hin⟩ := HR3.out
            subst hvv
            obtain ⟨⟨za1, zl1, zc1, za2, zl2, zc2, ⟨n0, n1', n2', n3', n4'⟩, hdz⟩, hR2⟩ := hin b5 o5 rfl (by omega)
            rw [show o5 + n * 5 + 5 = o5 + (n + 1) * 5 by omega] at hR2
            simp only [List.length_cons] at hRl
            have n0 := hg.cell n0 (by simp)
            have n1' := hg.cell n1' (by simp)
            have n2' := hg.cell n2' (by simp)
            have n3' := hg.cell n3' (by simp)
            have n4' := hg.cell n4' (by simp)
            have ga := World.grownBy_alloc wr (.cells #[.int .i64 z.op, .int .i64 z.a, .int .i64 z.b, .slice za1 zl1 zc1, .slice za2 zl2 zc2] 65) none
            have ba := heap_alloc_new wr (.cells #[.int .i64 z.op, .int .i64 z.a, .int .i64 z.b, .slice za1 zl1 zc1, .slice za2 zl2 zc2] 65)
            have hlen : nv ≤ 150000 := by
              have h1 := insL_len (capK P ++ capC P3) []
              have h2 : (capC y.code).length = (capC P3).length + (capI z ++ capC R').length := by rw [← hcs, capC_app, List.length_append]; rfl
              rw [hO.2] at h1
              simp only [List.length_append, List.length_nil] at h1 h2
              omega
            have FZ : Hid ((P3 ++ [z]) ++ R' = y.code ∧ (∀ b ob, some (⟨b5, o5, none⟩ : Addr) = some ⟨b, ob, none⟩ → 0 < f5 → InIns w w R' b (ob + (n + 1) * 5)) ∧ capK P ++ capC (P3 ++ [z]) = (capK P ++ capC P3) ++ capI z) := ⟨by rw [List.append_assoc]; exact hcs, fun b ob e _ => by injection e with e; injection e with h1 h2; subst h1 h2; exact hR2, by rw [capC_app]; simp [capC]⟩
            have N1 : Hid ((w.grownBy (wr.alloc (.cells #[.int .i64 z.op, .int .i64 z.a, .int .i64 z.b, .slice za1 zl1 zc1, .slice za2 zl2 zc2] 65)) none ∧ (wr.alloc (.cells #[.int .i64 z.op, .int .i64 z.a, .int .i64 z.b, .slice za1 zl1 zc1, .slice za2 zl2 zc2] 65)).heap[p0]? = some (Obj.cells #[.slice a1 l1 c1, .slice (some ⟨b, ob, none⟩) l2 c2, .slice a3 l3 c3] 32) ∧ OwI w.heap.size (wr.alloc (.cells #[.int .i64 z.op, .int .i64 z.a, .int .i64 z.b, .slice za1 zl1 zc1, .slice za2 zl2 zc2] 65)) av nv cv (insL [] (capK P ++ capC P3))) ∧ (wr.alloc (.cells #[.int .i64 z.op, .int .i64 z.a, .int .i64 z.b, .slice za1 zl1 zc1, .slice za2 zl2 zc2] 65)).heap[wr.heap.size]? = some (Obj.cells #[.int .i64 z.op, .int .i64 z.a, .int .i64 z.b, .slice za1 zl1 zc1, .slice za2 zl2 zc2] 65) ∧ w.heap.size ≤ wr.heap.size) := ⟨⟨grown_trans hg ga, (ga.block _ (lt_of_block hbx) (by simp)).trans hbx, hO.kept ga⟩, ba, hg.size⟩
            have hn0 : (0 : Int) ≤ (n : Int) := by omega
            have hn1 : (n : Int) < (f5 : Int) := by omega
            clear hg hbx hO hcs hin hdz hR2 HR3 ga ba
            go_upto_region 11 with fail
            clear n0 n1' n2' n3' n4' k8 y0 y1 y2
            generalize wr.alloc (.cells #[.int .i64 z.op, .int .i64 z.a, .int .i64 z.b, .slice za1 zl1 zc1, .slice za2 zl2 zc2] 65) = w2 at *
            generalize wr.heap.size = p7 at *
            obtain ⟨⟨x0, x1, x2, x3, x4⟩, -⟩ := blk5 N1.out.2.1
            by_cases ho : z.op = 31
            · have hob : (z.op == 31) = true := by simpa using ho
              by_cases ha : z.a ≤ 4
              · have hI : Hid (insL [] (capK P ++ capC (P3 ++ [z])) = srtV (insL [] (capK P ++ capC P3)) z.a) := by show _ = _; rw [FZ.out.2.2, insL_app, capI_pos ho ha]; rfl
                have CC : Hid _ := l3insertT w.heap.size av nv cv (insL [] (capK P ++ capC P3)) z.a w2 N1.out.1.2.2 N1.out.1.1.size (by omega)
                clear ho
                go_wp2_with fail
                refine Calls.mono CC.out ?_
                rintro e u2 ⟨a', c', rfl, hgu, hO2⟩
                have FW : Hid (w.grownBy u2 none ∧ u2.heap[p0]? = some (Obj.cells #[.slice a1 l1 c1, .slice (some ⟨b, ob, none⟩) l2 c2, .slice a3 l3 c3] 32) ∧ ∃ a n c, (Value.slice a' (srtV (insL [] (capK P ++ capC P3)) z.a).length c') = .slice a n c ∧ OwI w.heap.size u2 a n c (insL [] (capK P ++ capC (P3 ++ [z])))) := ⟨grown_trans N1.out.1.1 hgu, (hgu.block _ (lt_of_block N1.out.1.2.1) (by simp)).trans N1.out.1.2.1, _, _, _, rfl, by rw [hI.out]; exact hO2⟩
                clear CC hgu hO2 x0 x1 x2 x3 x4
                simp only []
                go_wp2
                go_roundw
                case rel => exact ⟨n + 1, P3 ++ [z], R', by omega, by go_num, by simp [hnl], by omega, FW.out, FZ.out.1, FZ.out.2.1⟩
                case measure => simp [intOf]; omega
              · have hI : Hid (insL [] (capK P ++ capC (P3 ++ [z])) = insL [] (capK P ++ capC P3)) := by show _ = _; rw [FZ.out.2.2, capI_no2 ha, List.append_nil]
                have FW : Hid (w.grownBy w2 none ∧ w2.heap[p0]? = some (Obj.cells #[.slice a1 l1 c1, .slice (some ⟨b, ob, none⟩) l2 c2, .slice a3 l3 c3] 32) ∧ ∃ a n c, (Value.slice av nv cv) = .slice a n c ∧ OwI w.heap.size w2 a n c (insL [] (capK P ++ capC (P3 ++ [z])))) := ⟨N1.out.1.1, N1.out.1.2.1, _, _, _, rfl, by rw [hI.out]; exact N1.out.1.2.2⟩
                clear ho
                go_wp2
                go_roundw
                case rel => exact ⟨n + 1, P3 ++ [z], R', by omega, by go_num, by simp [hnl], by omega, FW.out, FZ.out.1, FZ.out.2.1⟩
                case measure => simp [intOf]; omega
            · have hob : (z.op == 31) = false := by simpa using ho
              have hI : Hid (insL [] (capK P ++ capC (P3 ++ [z])) = insL [] (capK P ++ capC P3)) := by show _ = _; rw [FZ.out.2.2, capI_no1 ho, List.append_nil]
              have FW : Hid (w.grownBy w2 none ∧ w2.heap[p0]? = some (Obj.cells #[.slice a1 l1 c1, .slice (some ⟨b, ob, none⟩) l2 c2, .slice a3 l3 c3] 32) ∧ ∃ a n c, (Value.slice av nv cv) = .slice a n c ∧ OwI w.heap.size w2 a n c (insL [] (capK P ++ capC (P3 ++ [z])))) := ⟨N1.out.1.1, N1.out.1.2.1, _, _, _, rfl, by rw [hI.out]; exact N1.out.1.2.2⟩
              go_wp2
              go_roundw
              case rel => exact ⟨n + 1, P3 ++ [z], R', by omega, by go_num, by simp [hnl], by omega, FW.out, FZ.out.1, FZ.out.2.1⟩
              case measure => simp [intOf]; omega
          · obtain rfl : n = f5 := by omega
            obtain rfl : R = [] := List.eq_nil_of_length_eq_zero (by omega)
            obtain ⟨hS, hcs, -⟩ := HR3.out
            rw [List.append_nil] at hcs
            have FW : Hid (w.grownBy wr none ∧ wr.heap[p0]? = some (Obj.cells #[.slice a1 l1 c1, .slice (some ⟨b, ob, none⟩) l2 c2, .slice a3 l3 c3] 32) ∧ ∃ a n c, u3 = .slice a n c ∧ OwI w.heap.size wr a n c (insL [] (capK (P ++ [y])))) := by rw [FX.out.2.2, ← hcs]; exact hS
            clear hS hcs HR3
            go_wp2
            clear k8 y0 y1 y2
            go_roundw
            case rel => exact ⟨j + 1, P ++ [y], Q', by omega, by go_num, by simp [hPl], by omega, FW.out, FX.out.1, FX.out.2.1⟩
            case measure => simp [intOf]; omega
      · obtain rfl : j = l2 := by omega
        obtain rfl : Q = [] := List.eq_nil_of_length_eq_zero (by omega)
        obtain ⟨⟨hg, hbx, av, nv, cv, hvv, hO⟩, hcs, -⟩ := HQ.out
        rw [List.append_nil] at hcs
        rw [hcs] at hO
        subst hvv
        have hnn : nv = (insL [] (capK x.blks)).length := hO.2.symm
        have FQ : Hid (w.grownBy wr none ∧ OwI w.heap.size wr av nv cv (insL [] (capK x.blks))) := ⟨hg, hO⟩
        clear hg hbx hO hcs HQ
        subst hnn
        go_wp2
        go_ret
        exact ⟨av, cv, by rw [E.out]; rfl, FQ.out.1, by rw [E.out]; exact FQ.out.2⟩

end Go.Proofs.YtpdkgmagjhibkaaGreatDoor.By

namespace Go.Proofs.YtpdkgmagjhibkaaGreatDoor.By
open Go.RowKit Go.Sort
set_option linter.unusedVariables false
set_option linter.unusedSimpArgs false

set_option maxRecDepth 8000 in
set_option maxHeartbeats 4000000 in
theorem implCapsT (x : RProg) (a1 : Option Addr) (l1 c1 : Nat) (a2 : Option Addr) (l2 c2 : Nat) (a3 : Option Addr) (l3 c3 : Nat) (w : World) (h : RdProg w x a1 l1 a2 l2 a3 l3) (hF : OpsIn w) (hM : l1 ≤ 4194304) :
    Calls Tryz.prog 18 #[.agg #[.slice a1 l1 c1, .slice a2 l2 c2, .slice a3 l3 c3]] w fun e u => ∃ a' c', e = .returned (.slice a' (capsOfV x).length c') ∧ w.grownBy u none ∧ OwI w.heap.size u a' (capsOfV x).length c' (capsOfV x) := by
  obtain ⟨i0, hi, hz0, hz1, hz2⟩ := info_parts infoV
  have g0 := World.grownBy_alloc w (.cells #[.slice a1 l1 c1, .slice a2 l2 c2, .slice a3 l3 c3] 32) none
  have b0 := heap_alloc_new w (.cells #[.slice a1 l1 c1, .slice a2 l2 c2, .slice a3 l3 c3] 32)
  have C0 : Hid _ := implProgT x a1 l1 c1 a2 l2 c2 a3 l3 c3 (w.alloc (.cells #[.slice a1 l1 c1, .slice a2 l2 c2, .slice a3 l3 c3] 32)) (h.none g0) (hF.none g0) hM
  have L0 : Hid (w.grownBy _ none ∧ _ = some (Obj.cells #[.slice a1 l1 c1, .slice a2 l2 c2, .slice a3 l3 c3] 32)) := ⟨g0, b0⟩
  have H0 : Hid (RdProg w x a1 l1 a2 l2 a3 l3) := h
  have e2 : x.blks.length = l2 := h.2.1.1
  have m2 := h.2.1.2.1
  have HBY : Hid (∀ b ob, a2 = some ⟨b, ob, none⟩ → 0 < l2 → InBlock w w x.blks b ob) := fun b ob e hp => by
    rcases H0.out.2.1.cases with ⟨h, _⟩ | ⟨b', ob', h, hi, _⟩
    · omega
    · rw [e] at h; injection h with h; injection h with h1 h2; subst h1 h2; exact hi
  have HBA : Hid (0 < l2 → ∃ b ob, a2 = some ⟨b, ob, none⟩) := fun hp => by
    rcases H0.out.2.1.cases with ⟨h, _⟩ | ⟨b', ob', h, hi, _⟩
    · omega
    · exact ⟨b', ob', h⟩
  obtain ⟨⟨y0, y1, y2⟩, -⟩ := blkProg b0
  clear h g0 b0 H0
  go_enter Tryz.func18, Tryz.ntmps18
  go_wp2_with fail
  refine Calls.mono C0.out ?_
  rintro e u0 ⟨he, hg⟩
  subst he
  have L1 : Hid (w.grownBy u0 none ∧ u0.heap[w.heap.size]? = some (Obj.cells #[.slice a1 l1 c1, .slice a2 l2 c2, .slice a3 l3 c3] 32)) := ⟨grown_trans L0.out.1 hg, (hg.block _ (lt_of_block L0.out.2) (by simp)).trans L0.out.2⟩
  clear C0 L0 hg y0 y1 y2
  obtain ⟨p0, hp0⟩ : ∃ p0, p0 = w.heap.size := ⟨_, rfl⟩
  rw [← hp0] at L1
  simp only [← hp0]
  clear hp0
  obtain ⟨⟨y0, y1, y2⟩, -⟩ := blkProg L1.out.2
  cases hb : okP x with
  | false =>
    have E : Hid (capsOfV x = []) := by show _ = _; unfold capsOfV; rw [hb]; rfl
    go_wp2
    go_ret
    exact ⟨none, 0, by rw [E.out]; rfl, L1.out.1, by rw [E.out]; exact OwI.nil _ _⟩
  | true =>
    have E : Hid (capsOfV x = insL [] (capK x.blks)) := by show _ = _; unfold capsOfV; rw [if_pos hb]
    have hkl := capK_len2 hb
    clear hb
    go_wp2
    clear y0 y1 y2
    go_loopw [3, 14] (fun vv i wr => ∃ (j : Nat) (P Q : List RBlock), j ≤ l2 ∧ i = .int .i64 j ∧ P.length = j ∧ Q.length + j = l2 ∧ Hid ((FrI u0.heap.size u0 wr ∧ u0.heap.size ≤ wr.heap.size ∧ wr.ownsRow u0.heap.size 3 1 vv (capK P).length (valsI (capK P))) ∧ P ++ Q = x.blks ∧ ∀ b ob, a2 = some ⟨b, ob, none⟩ → 0 < l2 → InBlock w w Q b (ob + j * 9))) (fun _ i _ => l2 - (intOf i).toNat)
    case atStart => exact ⟨0, [], x.blks, Nat.zero_le _, rfl, rfl, by omega, ⟨FrI.refl _ _, Nat.le_refl _, ⟨rfl, .inl ⟨rfl, rfl⟩⟩⟩, rfl, fun b ob e hp => by simpa using HBY.out b ob e hp⟩
    case round =>
      obtain ⟨j, P, Q, hj, rfl, hPl, hQl, HQ⟩ := hrel
      by_cases hlt : j < l2
      · obtain ⟨y, Q', rfl⟩ : ∃ x R', Q = x :: R' := by
          cases Q with
          | nil => simp at hQl; omega
          | cons x R' => exact ⟨x, R', rfl⟩
        obtain ⟨b, ob, rfl⟩ := HBA.out (by omega)
        simp only [List.length_cons] at hQl
        obtain ⟨⟨hF2, hsz, hO⟩, hcs, hin⟩ := HQ.out
        obtain ⟨⟨e1, f1, g1, e2', f2, g2, e3, f3, g3, e4, f4, g4, e5, f5, g5, ⟨k0, k1, k2, k3, k4, k5, k6, k7, k8⟩, hd⟩, hQ2⟩ := hin b ob rfl (by omega)
        rw [show ob + j * 9 + 9 = ob + (j + 1) * 9 by omega] at hQ2
        have cl : ∀ p v, w.cell? p = some v → wr.cell? p = some v := fun p v hv => by
          have h1 := L1.out.1.cell hv (by simp)
          exact cle_below (W0 := u0) hF2.below p v h1
        have k0 := cl _ _ k0
        have k1 := cl _ _ k1
        have k2 := cl _ _ k2
        have k3 := cl _ _ k3
        have k4 := cl _ _ k4
        have k5 := cl _ _ k5
        have k6 := cl _ _ k6
        have k7 := cl _ _ k7
        have k8 := cl _ _ k8
        have c5' : y.code.length = f5 := hd.2.2.2.2.1
        have cm5 := hd.2.2.2.2.2.1
        have HCY : Hid (∀ b ob, e5 = some ⟨b, ob, none⟩ → 0 < f5 → InIns w w y.code b ob) := fun b ob e hp => by
          rcases hd.2.2.2.2.2.2 with h | ⟨b', ob', h, hi⟩
          · omega
          · rw [e] at h; injection h with h; injection h with h1 h2; subst h1 h2; exact hi
        have HCA2 : Hid (0 < f5 → ∃ b ob, e5 = some ⟨b, ob, none⟩) := fun hp => by
          rcases hd.2.2.2.2.2.2 with h | ⟨b', ob', h, hi⟩
          · omega
          · exact ⟨b', ob', h⟩
        have FX : Hid ((P ++ [y]) ++ Q' = x.blks ∧ (∀ b' ob', some (⟨b, ob, none⟩ : Addr) = some ⟨b', ob', none⟩ → 0 < l2 → InBlock w w Q' b' (ob' + (j + 1) * 9)) ∧ capK (P ++ [y]) = capK P ++ capC y.code) := ⟨by rw [List.append_assoc]; exact hcs, fun b' ob' e _ => by injection e with e; injection e with h1 h2; subst h1 h2; exact hQ2, by rw [capK_app]; simp [capK]⟩
        have hpk : (capK P).length + (capC y.code).length ≤ 150000 := by
          have e := FX.out
          have : (capK ((P ++ [y]) ++ Q')).length ≤ 150000 := by rw [e.1]; exact hkl
          rw [capK_app, e.2.2] at this
          simp only [List.length_append] at this
          omega
        have ga := World.grownBy_alloc wr (.cells #[.slice e1 f1 g1, .int .i64 y.argk, .int .i64 y.argn, .slice e2' f2 g2, .int .i64 y.resk, .int .i64 y.resn, .slice e3 f3 g3, .slice e4 f4 g4, .slice e5 f5 g5] 63) none
        have ba := heap_alloc_new wr (.cells #[.slice e1 f1 g1, .int .i64 y.argk, .int .i64 y.argn, .slice e2' f2 g2, .int .i64 y.resk, .int .i64 y.resn, .slice e3 f3 g3, .slice e4 f4 g4, .slice e5 f5 g5] 63)
        have N0 : Hid (FrI u0.heap.size u0 (wr.alloc (.cells #[.slice e1 f1 g1, .int .i64 y.argk, .int .i64 y.argn, .slice e2' f2 g2, .int .i64 y.resk, .int .i64 y.resn, .slice e3 f3 g3, .slice e4 f4 g4, .slice e5 f5 g5] 63)) ∧ u0.heap.size ≤ (wr.alloc (.cells #[.slice e1 f1 g1, .int .i64 y.argk, .int .i64 y.argn, .slice e2' f2 g2, .int .i64 y.resk, .int .i64 y.resn, .slice e3 f3 g3, .slice e4 f4 g4, .slice e5 f5 g5] 63)).heap.size ∧ (wr.alloc (.cells #[.slice e1 f1 g1, .int .i64 y.argk, .int .i64 y.argn, .slice e2' f2 g2, .int .i64 y.resk, .int .i64 y.resn, .slice e3 f3 g3, .slice e4 f4 g4, .slice e5 f5 g5] 63)).ownsRow u0.heap.size 3 1 u3 (capK P).length (valsI (capK P))) := ⟨hF2.trans (FrI.grown ga hsz), Nat.le_trans hsz ga.size, hO.alloc _⟩
        have hj0 : (0 : Int) ≤ (j : Int) := by omega
        have hj1 : (j : Int) < (l2 : Int) := by omega
        obtain ⟨⟨z0, z1, z2, z3, z4, z5, z6, z7, z8⟩, -⟩ := blkBlock ba
        clear hF2 hsz hO hcs hin hd hQ2 HQ ga ba cl
        go_wp2
        clear k0 k1 k2 k3 k4 k5 k6 k7 k8 z0 z1 z2 z3 z4 z5 z6 z7 z8
        generalize wr.alloc (.cells #[.slice e1 f1 g1, .int .i64 y.argk, .int .i64 y.argn, .slice e2' f2 g2, .int .i64 y.resk, .int .i64 y.resn, .slice e3 f3 g3, .slice e4 f4 g4, .slice e5 f5 g5] 63) = w1 at *
        generalize wr.heap.size = p6 at *
        go_loopw [3, 21] (fun vv i ww => ∃ (n : Nat) (P3 R : List RIns), n ≤ f5 ∧ i = .int .i64 n ∧ P3.length = n ∧ R.length + n = f5 ∧ Hid ((FrI u0.heap.size u0 ww ∧ u0.heap.size ≤ ww.heap.size ∧ ww.ownsRow u0.heap.size 3 1 vv (capK P ++ capC P3).length (valsI (capK P ++ capC P3))) ∧ P3 ++ R = y.code ∧ ∀ b ob, e5 = some ⟨b, ob, none⟩ → 0 < f5 → InIns w w R b (ob + n * 5))) (fun _ i _ => f5 - (intOf i).toNat)
        case atStart => exact ⟨0, [], y.code, Nat.zero_le _, rfl, rfl, by omega, by simpa [capC] using N0.out, rfl, fun b ob e hp => by simpa using HCY.out b ob e hp⟩
        case round =>
          clear N0
          obtain ⟨n, P3, R, hn, rfl, hnl, hRl, HR3⟩ := hrel
          by_cases hlt3 : n < f5
          · obtain ⟨z, R', rfl⟩ : ∃ x R', R = x :: R' := by
              cases R with
              | nil => simp at hRl; omega
              | cons x R' => exact ⟨x, R', rfl⟩
            obtain ⟨b5, o5, rfl⟩ := HCA2.out (by omega)
            obtain ⟨⟨hF2, hsz, hO⟩, hcs, hin⟩ := HR3.out
            obtain ⟨⟨za1, zl1, zc1, za2, zl2, zc2, ⟨n0, n1', n2', n3', n4'⟩, hdz⟩, hR2⟩ := hin b5 o5 rfl (by omega)
            rw [show o5 + n * 5 + 5 = o5 + (n + 1) * 5 by omega] at hR2
            simp only [List.length_cons] at hRl
            have cl : ∀ p v, w.cell? p = some v → wr.cell? p = some v := fun p v hv => by
              have h1 := L1.out.1.cell hv (by simp)
              exact cle_below (W0 := u0) hF2.below p v h1
            have n0 := cl _ _ n0
            have n1' := cl _ _ n1'
            have n2' := cl _ _ n2'
            have n3' := cl _ _ n3'
            have n4' := cl _ _ n4'
            have ga := World.grownBy_alloc wr (.cells #[.int .i64 z.op, .int .i64 z.a, .int .i64 z.b, .slice za1 zl1 zc1, .slice za2 zl2 zc2] 65) none
            have ba := heap_alloc_new wr (.cells #[.int .i64 z.op, .int .i64 z.a, .int .i64 z.b, .slice za1 zl1 zc1, .slice za2 zl2 zc2] 65)
            have hlen : (capK P ++ capC P3).length + 1 ≤ 150001 := by
              have h2 : (capC y.code).length = (capC P3).length + (capI z ++ capC R').length := by rw [← hcs, capC_app, List.length_append]; rfl
              simp only [List.length_append] at h2 ⊢
              omega
            have FZ : Hid ((P3 ++ [z]) ++ R' = y.code ∧ (∀ b ob, some (⟨b5, o5, none⟩ : Addr) = some ⟨b, ob, none⟩ → 0 < f5 → InIns w w R' b (ob + (n + 1) * 5)) ∧ capK P ++ capC (P3 ++ [z]) = (capK P ++ capC P3) ++ capI z) := ⟨by rw [List.append_assoc]; exact hcs, fun b ob e _ => by injection e with e; injection e with h1 h2; subst h1 h2; exact hR2, by rw [capC_app]; simp [capC]⟩
            have N1 : Hid ((FrI u0.heap.size u0 (wr.alloc (.cells #[.int .i64 z.op, .int .i64 z.a, .int .i64 z.b, .slice za1 zl1 zc1, .slice za2 zl2 zc2] 65)) ∧ u0.heap.size ≤ (wr.alloc (.cells #[.int .i64 z.op, .int .i64 z.a, .int .i64 z.b, .slice za1 zl1 zc1, .slice za2 zl2 zc2] 65)).heap.size ∧ (wr.alloc (.cells #[.int .i64 z.op, .int .i64 z.a, .int .i64 z.b, .slice za1 zl1 zc1, .slice za2 zl2 zc2] 65)).ownsRow u0.heap.size 3 1 u3 (capK P ++ capC P3).length (valsI (capK P ++ capC P3))) ∧ (wr.alloc (.cells #[.int .i64 z.op, .int .i64 z.a, .int .i64 z.b, .slice za1 zl1 zc1, .slice za2 zl2 zc2] 65)).heap[wr.heap.size]? = some (Obj.cells #[.int .i64 z.op, .int .i64 z.a, .int .i64 z.b, .slice za1 zl1 zc1, .slice za2 zl2 zc2] 65)) := ⟨⟨hF2.trans (FrI.grown ga hsz), Nat.le_trans hsz ga.size, hO.alloc _⟩, ba⟩
            have hn0 : (0 : Int) ≤ (n : Int) := by omega
            have hn1 : (n : Int) < (f5 : Int) := by omega
            clear hF2 hsz hO hcs hin hdz hR2 HR3 ga ba cl
            go_upto_region 10 with fail
            clear n0 n1' n2' n3' n4'
            generalize wr.alloc (.cells #[.int .i64 z.op, .int .i64 z.a, .int .i64 z.b, .slice za1 zl1 zc1, .slice za2 zl2 zc2] 65) = w2 at *
            generalize wr.heap.size = p7 at *
            obtain ⟨⟨x0, x1, x2, x3, x4⟩, -⟩ := blk5 N1.out.2
            by_cases ho : z.op = 31
            · have hob : (z.op == 31) = true := by simpa using ho
              by_cases ha : z.a ≤ 4
              · have hI : Hid (capK P ++ capC (P3 ++ [z]) = (capK P ++ capC P3) ++ [z.a]) := by show _ = _; rw [FZ.out.2.2, capI_pos ho ha]
                have ga := World.grownBy_alloc w2 (.cells #[.int .i64 z.a] 3) none
                have S2 : Hid ((w2.alloc (.cells #[.int .i64 z.a] 3)).ownsRow u0.heap.size 3 1 u3 (capK P ++ capC P3).length (valsI (capK P ++ capC P3)) ∧ ReadsI (w2.alloc (.cells #[.int .i64 z.a] 3)) (some ⟨w2.heap.size, 0, none⟩) 1 [z.a] ∧ u0.heap.size ≤ (w2.alloc (.cells #[.int .i64 z.a] 3)).heap.size ∧ FrI u0.heap.size u0 (w2.alloc (.cells #[.int .i64 z.a] 3))) := ⟨N1.out.1.2.2.alloc _, readsOne w2 z.a 3, Nat.le_trans N1.out.1.2.1 ga.size, N1.out.1.1.trans (FrI.grown ga N1.out.1.2.1)⟩
                clear ga ho
                go_wp2_with (at_builtin; go_must (refine wpList_appI rfl (.tmp 33) (.tmp 36) 24 rfl u0.heap.size i0 (.int .i64 0) Tryz.underlying24 hi hz0 hz1 hz2 rfl u3 (capK P ++ capC P3).length (capK P ++ capC P3) rfl S2.out.1 (some ⟨w2.heap.size, 0, none⟩) 1 1 [z.a] rfl S2.out.2.1 (by simp) (by omega) S2.out.2.2.1 ?_); intro v3 w3 o3 g3 n3)
                have FW : Hid (FrI u0.heap.size u0 w3 ∧ u0.heap.size ≤ w3.heap.size ∧ w3.ownsRow u0.heap.size 3 1 v3 (capK P ++ capC (P3 ++ [z])).length (valsI (capK P ++ capC (P3 ++ [z])))) := ⟨S2.out.2.2.2.trans (FrI.own g3 S2.out.1 S2.out.2.2.1), Nat.le_trans S2.out.2.2.1 g3.size, by rw [hI.out, show ((capK P ++ capC P3) ++ [z.a]).length = (capK P ++ capC P3).length + 1 by rw [List.length_append (bs := [z.a])]; rfl]; exact o3⟩
                clear o3 g3 n3 S2 x0 x1 x2 x3 x4
                go_roundw
                case rel => exact ⟨n + 1, P3 ++ [z], R', by omega, by go_num, by simp [hnl], by omega, FW.out, FZ.out.1, FZ.out.2.1⟩
                case measure => simp [intOf]; omega
              · have hI : Hid (capK P ++ capC (P3 ++ [z]) = capK P ++ capC P3) := by show _ = _; rw [FZ.out.2.2, capI_no2 ha, List.append_nil]
                have FW : Hid (FrI u0.heap.size u0 w2 ∧ u0.heap.size ≤ w2.heap.size ∧ w2.ownsRow u0.heap.size 3 1 u3 (capK P ++ capC (P3 ++ [z])).length (valsI (capK P ++ capC (P3 ++ [z])))) := by rw [hI.out]; exact N1.out.1
                clear ho
                go_wp2
                go_roundw
                case rel => exact ⟨n + 1, P3 ++ [z], R', by omega, by go_num, by simp [hnl], by omega, FW.out, FZ.out.1, FZ.out.2.1⟩
                case measure => simp [intOf]; omega
            · have hob : (z.op == 31) = false := by simpa using ho
              have hI : Hid (capK P ++ capC (P3 ++ [z]) = capK P ++ capC P3) := by show _ = _; rw [FZ.out.2.2, capI_no1 ho, List.append_nil]
              have FW : Hid (FrI u0.heap.size u0 w2 ∧ u0.heap.size ≤ w2.heap.size ∧ w2.ownsRow u0.heap.size 3 1 u3 (capK P ++ capC (P3 ++ [z])).length (valsI (capK P ++ capC (P3 ++ [z])))) := by rw [hI.out]; exact N1.out.1
              go_wp2
              go_roundw
              case rel => exact ⟨n + 1, P3 ++ [z], R', by omega, by go_num, by simp [hnl], by omega, FW.out, FZ.out.1, FZ.out.2.1⟩
              case measure => simp [intOf]; omega
          · obtain rfl : n = f5 := by omega
            obtain rfl : R = [] := List.eq_nil_of_length_eq_zero (by omega)
            obtain ⟨hS, hcs, -⟩ := HR3.out
            rw [List.append_nil] at hcs
            have FW : Hid (FrI u0.heap.size u0 wr ∧ u0.heap.size ≤ wr.heap.size ∧ wr.ownsRow u0.heap.size 3 1 u3 (capK (P ++ [y])).length (valsI (capK (P ++ [y])))) := by rw [FX.out.2.2, ← hcs]; exact hS
            clear hS hcs HR3
            go_wp2
            go_roundw
            case rel => exact ⟨j + 1, P ++ [y], Q', by omega, by go_num, by simp [hPl], by omega, FW.out, FX.out.1, FX.out.2.1⟩
            case measure => simp [intOf]; omega
      · obtain rfl : j = l2 := by omega
        obtain rfl : Q = [] := List.eq_nil_of_length_eq_zero (by omega)
        obtain ⟨⟨hF2, hsz, hA⟩, hcs, -⟩ := HQ.out
        rw [List.append_nil] at hcs
        rw [hcs] at hA
        rw [← sorted_compact] at E
        generalize capK x.blks = vs at *
        obtain ⟨-, a', c', rfl, hO⟩ := ownsV hA
        have FA : Hid (w.grownBy wr none ∧ OwI u0.heap.size wr a' vs.length c' vs ∧ w.heap.size ≤ u0.heap.size ∧ Below u0.heap.size u0 wr ∧ w.grownBy u0 none) := ⟨grown_trans L1.out.1 (grown_of_belowV hF2.below), hO, L1.out.1.size, hF2.below, L1.out.1⟩
        clear hF2 hsz hA hO HQ hcs
        by_cases hv : vs.length = 0
        · obtain rfl : vs = [] := List.eq_nil_of_length_eq_zero hv
          have E2 : Hid (capsOfV x = []) := by show _ = _; rw [E.out]; simp [Lib.compact, Lib.compactUpTo]
          have FB : Hid (w.grownBy wr none ∧ OwI w.heap.size wr a' 0 c' []) := ⟨FA.out.1, FA.out.2.1.mono FA.out.2.2.1⟩
          clear E FA hkl
          go_wp2_with fail
          refine Calls.mono (Tryz.slices_Sort_int_none a' c' wr) ?_
          rintro e w3 ⟨rfl, rfl⟩
          simp only []
          go_wp2_with fail
          refine Calls.mono (Tryz.slices_Compact_int_empty a' c' w3) ?_
          rintro e w4 ⟨rfl, rfl⟩
          simp only []
          go_wp2
          go_ret
          exact ⟨a', c', by rw [E2.out]; rfl, FB.out.1, by rw [E2.out]; exact FB.out.2⟩
        obtain ⟨g, rfl⟩ : ∃ g, a' = some (⟨g, 0, none⟩ : Addr) := by
          rcases FA.out.2.1.1.2 with ⟨e, h0⟩ | ⟨g, cap, cur, e, _⟩
          · exact absurd h0 hv
          · injection e with e1; exact ⟨g, e1⟩
        have CS : Hid _ := Tryz.slices_Sort_int g 0 c' vs wr FA.out.2.1.holds FA.out.2.1.blk.2.1 (by omega)
        clear hv
        go_wp2_with fail
        refine Calls.mono CS.out ?_
        rintro e w3 ⟨rfl, m, os, hu3⟩
        have hsl : (vs.mergeSort fun x y => decide (x ≤ y)).length = vs.length := List.length_mergeSort vs
        obtain ⟨hO3, hB3⟩ := FA.out.2.1.sorted (m := m) (os := os) hsl
        rw [← hu3] at hO3 hB3
        have FB : Hid (OwI u0.heap.size w3 (some ⟨g, 0, none⟩) vs.length c' (vs.mergeSort fun x y => decide (x ≤ y)) ∧ Below u0.heap.size u0 w3 ∧ w.heap.size ≤ u0.heap.size ∧ w.grownBy u0 none) := ⟨hO3, FA.out.2.2.2.1.trans hB3, FA.out.2.2.1, FA.out.2.2.2.2⟩
        clear hO3 hB3 hu3 FA CS
        generalize (vs.mergeSort fun x y => decide (x ≤ y)) = ts at *
        have CK : Hid _ := Tryz.slices_Compact_int g 0 c' ts w3 FB.out.1.holds (by omega) (by have := FB.out.1.blk.2.2.1; omega)
        have hsl' : vs.length = ts.length := hsl.symm
        generalize vs.length = nv at *
        subst hsl'
        simp only []
        go_wp2_with fail
        refine Calls.mono CK.out ?_
        rintro e w4 ⟨rfl, q, hu4⟩
        have hcl := Lib.compact_length_le ts
        obtain ⟨hO4, hB4⟩ := FB.out.1.compacted (q := q) (k := (Lib.compact ts).length) (ys := Lib.compact ts ++ List.replicate (ts.length - (Lib.compact ts).length) 0) (by simp; omega) hcl
        rw [← hu4, List.take_left] at hO4
        rw [← hu4] at hB4
        have FC : Hid (w.grownBy w4 none ∧ OwI w.heap.size w4 (some ⟨g, 0, none⟩) (Lib.compact ts).length c' (Lib.compact ts)) := ⟨grown_trans FB.out.2.2.2 (grown_of_belowV (FB.out.2.1.trans hB4)), hO4.mono FB.out.2.2.1⟩
        clear hO4 hB4 hu4 FB CK
        simp only []
        go_wp2
        go_ret
        exact ⟨some ⟨g, 0, none⟩, c', by rw [E.out]; rfl, FC.out.1, by rw [E.out]; exact FC.out.2⟩

end Go.Proofs.YtpdkgmagjhibkaaGreatDoor.By
