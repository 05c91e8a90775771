/-
  What holds marks on events. No statement is proved here.
-/
import Derived.Test.YtccnninmkfhejaaYMv
namespace Go.Proofs.Ytccnninmkfhejaa.By
open Go.RowKit
set_option linter.unusedVariables false
set_option linter.unusedSimpArgs false

theorem mkV_len : ∀ (k : Int) (Q : List REvent), (mkV k Q).length = Q.length
  | k, [] => rfl
  | k, x :: r => by simp [mkV, mkV_len _ r]

set_option maxRecDepth 8000 in
set_option maxHeartbeats 8000000 in
theorem heldVs (xs : List REvent) (a : Option Addr) (n c : Nat) (k0 : Int) (w : World) (h : SlEvent w a n (mkV k0 xs)) (hn : evn xs ≤ 16777216) (hlit : ∀ y ∈ xs, y.lit.length ≤ 1048576) (hk0 : 0 ≤ k0) (hk1 : k0 ≤ 16777216) :
    Calls Try.prog 49 #[.slice a n c, .int .i64 k0] w fun e u => e = .returned (.int .i64 (k0 + evn xs)) ∧ w.grownBy u none := by
  have hxl : xs.length = n := by have := h.1; rw [mkV_len] at this; exact this
  have hn4 : n ≤ 4194304 := by have := evn_ge xs; omega
  obtain ⟨vs0, hvr, hvl⟩ := h.lies
  have HV : Hid (EvR w (mkV k0 xs) vs0 ∧ Lies w a n vs0 ∧ ∀ y ∈ xs, y.lit.length ≤ 1048576) := ⟨hvr, hvl, hlit⟩
  clear h hvr hvl hlit
  go_enter Try.func49, Try.ntmps49
  go_wp2
  go_loopw [1, 5] (fun v i wr => ∃ (j : Nat) (P R : List REvent) (V : List Value), j ≤ n ∧ i = .int .i64 j ∧ v = .int .i64 (k0 + evn P) ∧ P ++ R = xs ∧ P.length = j ∧ Hid (w.grownBy wr none ∧ vs0.drop (j * 5) = V ∧ EvR w (mkV (k0 + evn P) R) V)) (fun _ i _ => n - (intOf i).toNat)
  case atStart => exact ⟨0, [], xs, vs0, Nat.zero_le _, rfl, by simp [evn], rfl, rfl, World.grownBy.refl _ _, rfl, by simpa [evn] using HV.out.1⟩
  case round =>
    obtain ⟨j, P, R, V, hj, rfl, rfl, hPR, hPl, HL⟩ := hrel
    by_cases hlt : j < n
    · obtain ⟨y, r, rfl⟩ : ∃ y r, R = y :: r := by
        cases R with
        | nil => have := congrArg List.length hPR; simp at this; omega
        | cons y r => exact ⟨y, r, rfl⟩
      obtain ⟨gw, hV, ⟨ta, tl, tc, V', rfl, hb, hR⟩⟩ := HL.out
      have hym : y ∈ xs := by rw [← hPR]; simp
      have hyl0 := HV.out.2.2 y hym
      have hev : evn xs = evn P + (y.lit.length + 4 + evn r) := by rw [← hPR, evn_app]; rfl
      obtain ⟨K, hK⟩ : ∃ K : Int, K = k0 + evn P := ⟨_, rfl⟩
      have hK0 : 0 ≤ K ∧ K ≤ 33554432 := by omega
      rw [← hK] at hb hR hV ⊢
      simp only [mk1] at hb hV
      have hyl : y.lit.length = tl := by have := hb.1.1; rw [mkB_len] at this; exact this
      rw [hyl] at hb hV hR hyl0
      obtain ⟨b, o, rfl, hc⟩ : ∃ b o, a = some ⟨b, o, none⟩ ∧ ∀ i v, vs0[i]? = some v → w.cell? ⟨b, o + i, none⟩ = some v := by
        rcases HV.out.2.1 with h0 | ⟨b, o, e, hc⟩
        · omega
        · exact ⟨b, o, e, hc⟩
      have ge : ∀ i, vs0[j * 5 + i]? = ([Value.int .i64 K, .int .i64 (K + 1), .int .i64 (K + 2), .slice ta tl tc, .int .i64 (K + 3 + tl)] ++ V')[i]? := fun i => by rw [← hV, List.getElem?_drop]
      have c0 : wr.cell? ⟨b, o + j * 5, none⟩ = some (.int .i64 K) := gw.cell (by have := hc (j * 5) _ (ge 0); exact this) (by simp)
      have c1 : wr.cell? ⟨b, o + j * 5 + 1, none⟩ = some (.int .i64 (K + 1)) := gw.cell (by have := hc (j * 5 + 1) _ (ge 1); rw [← Nat.add_assoc] at this; exact this) (by simp)
      have c2 : wr.cell? ⟨b, o + j * 5 + 2, none⟩ = some (.int .i64 (K + 1 + 1)) := by rw [show K + 1 + 1 = K + 2 by omega]; exact gw.cell (by have := hc (j * 5 + 2) _ (ge 2); rw [← Nat.add_assoc] at this; exact this) (by simp)
      have c3 : wr.cell? ⟨b, o + j * 5 + 3, none⟩ = some (.slice ta tl tc) := gw.cell (by have := hc (j * 5 + 3) _ (ge 3); rw [← Nat.add_assoc] at this; exact this) (by simp)
      have k4 : w.cell? ⟨b, o + j * 5 + 4, none⟩ = some (.int .i64 (K + 1 + 1 + 1 + tl)) := by rw [show K + 1 + 1 + 1 = K + 3 by omega]; have := hc (j * 5 + 4) _ (ge 4); rw [← Nat.add_assoc] at this; exact this
      have w1 : IntKind.i64.wrap (K + 1) = K + 1 := IntWalk.i64_in _ ⟨by omega, by omega⟩
      have w2 : IntKind.i64.wrap (K + 1 + 1) = K + 1 + 1 := IntWalk.i64_in _ ⟨by omega, by omega⟩
      have w3 : IntKind.i64.wrap (K + 1 + 1 + 1) = K + 1 + 1 + 1 := IntWalk.i64_in _ ⟨by omega, by omega⟩
      have w5 : IntKind.i64.wrap (K + 1 + 1 + 1 + tl + 1) = K + 1 + 1 + 1 + tl + 1 := IntWalk.i64_in _ ⟨by omega, by omega⟩
      have nn : ¬ (K + 1 + 1 + 1 + (tl : Int) < 0) := by omega
      have CB : Hid _ := heldBs ta tl tc (K + 1 + 1 + 1) wr (by rw [show K + 1 + 1 + 1 = K + 3 by omega]; exact hb.none gw) (by omega) (by omega) (by omega)
      have HE : Hid (K + 1 + 1 + 1 + (tl : Int) + 1 = k0 + (evn (P ++ [y]) : Nat)) := by
        show _ = _
        rw [evn_app]; simp only [evn]; omega
      have HM : Hid (w.grownBy wr none ∧ vs0.drop ((j + 1) * 5) = V' ∧ EvR w (mkV (k0 + (evn (P ++ [y]) : Nat)) r) V' ∧ P ++ y :: r = xs) := by
        refine ⟨gw, ?_, ?_, hPR⟩
        · rw [show (j + 1) * 5 = j * 5 + 5 by omega, ← List.drop_drop, hV]; rfl
        · rw [← HE.out, show K + 1 + 1 + 1 + (tl : Int) + 1 = K + ((tl + 4 : Nat) : Int) by omega]; exact hR
      clear HL hV hb hR hc ge hK hK0 hev hPR hym gw
      go_upto_region 13 with fail
      clear c0 c1 c2
      go_wp2_with fail
      refine Calls.mono CB.out ?_
      rintro e u ⟨rfl, hg⟩
      have c4 : u.cell? ⟨b, o + j * 5 + 4, none⟩ = some (.int .i64 (K + 1 + 1 + 1 + tl)) := (grown_trans HM.out.1 hg).cell k4 (by simp)
      have HG : Hid (w.grownBy u none) := grown_trans HM.out.1 hg
      clear hg CB c3 k4
      simp only []
      go_wp2
      go_roundw
      case rel =>
        refine ⟨j + 1, P ++ [y], r, V', by omega, by go_num, ?_, by rw [List.append_assoc]; exact HM.out.2.2.2, by simp [hPl], HG.out, HM.out.2.1, HM.out.2.2.1⟩
        rw [← HE.out]
      case measure => simp [intOf]; omega
    · obtain rfl : j = n := by omega
      have hR0 : R = [] := by
        have := congrArg List.length hPR
        simp at this
        exact List.eq_nil_of_length_eq_zero (by omega)
      subst hR0
      rw [List.append_nil] at hPR
      subst hPR
      go_wp2
      go_ret
      exact ⟨rfl, HL.out.1⟩
end Go.Proofs.Ytccnninmkfhejaa.By
