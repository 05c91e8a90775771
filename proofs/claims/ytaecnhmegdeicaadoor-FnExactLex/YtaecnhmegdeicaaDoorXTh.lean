/-
  What holds marks on tokens. No statement is proved here.
-/
import Derived.Test.YtaecnhmegdeicaaDoorXTk
namespace Go.Proofs.YtaecnhmegdeicaaDoor.By
open Go.RowKit
set_option linter.unusedVariables false
set_option linter.unusedSimpArgs false

def LiesT (w : World) (a : Option Addr) (l : Nat) (vs : List Value) : Prop := l = 0 ∨ ∃ b o, a = some ⟨b, o, none⟩ ∧ ∀ j u, vs[j]? = some u → w.cell? ⟨b, o + j, none⟩ = some u
/-- The cells of events, whose texts are read. -/
def TkR (w : World) : List RToken → List Value → Prop
  | [], vs => vs = []
  | x :: r, vs => ∃ a l c vs', vs = [.int .i64 x.kind, .int .i64 x.pos, .int .i64 x.n, .slice a l c] ++ vs' ∧ RdB w a l x.text ∧ TkR w r vs'
theorem TkR.le {w u : World} (k : CLe w u) : ∀ {xs : List RToken} {vs : List Value}, TkR w xs vs → TkR u xs vs
  | [], _, h => h
  | x :: r, _, ⟨a, l, c, vs', e, hb, hr⟩ => ⟨a, l, c, vs', e, hb.le k, TkR.le k hr⟩
theorem InToken.vs {w wp : World} : ∀ {xs : List RToken} {b o : Nat}, InToken w wp xs b o → ∃ vs, TkR wp xs vs ∧ ∀ j u, vs[j]? = some u → w.cell? ⟨b, o + j, none⟩ = some u
  | [], b, o, _ => ⟨[], rfl, fun j u hj => by simp at hj⟩
  | x :: r, b, o, ⟨⟨a1, l1, c1, ⟨k0, k1, k2, k3⟩, hd⟩, hr⟩ => by
    obtain ⟨vs', h1, h2⟩ := InToken.vs hr
    refine ⟨[.int .i64 x.kind, .int .i64 x.pos, .int .i64 x.n, .slice a1 l1 c1] ++ vs', ⟨a1, l1, c1, vs', rfl, hd, h1⟩, fun j u hj => ?_⟩
    match j, hj with
    | 0, hj => cases hj; exact k0
    | 1, hj => cases hj; exact k1
    | 2, hj => cases hj; exact k2
    | 3, hj => cases hj; exact k3
    | j + 4, hj =>
      have := h2 j u (by simpa using hj)
      rw [show o + (j + 4) = o + 4 + j by omega]; exact this
theorem SlToken.lies {w : World} {a : Option Addr} {l : Nat} {xs : List RToken} (h : SlToken w a l xs) : ∃ vs, TkR w xs vs ∧ LiesT w a l vs := by
  rcases h.cases with ⟨rfl, rfl⟩ | ⟨b, o, e, hin, -⟩
  · exact ⟨[], rfl, .inl rfl⟩
  · obtain ⟨vs, h1, h2⟩ := hin.vs
    exact ⟨vs, h1, .inr ⟨b, o, e, h2⟩⟩

set_option maxRecDepth 8000 in
set_option maxHeartbeats 8000000 in
theorem heldTs (xs : List RToken) (a : Option Addr) (n c : Nat) (k0 : Int) (w : World) (h : SlToken w a n (mkT k0 xs)) (hn : tkn xs ≤ 12000000) (htxt : ∀ y ∈ xs, y.text.length ≤ 1048576) (hk0 : 0 ≤ k0) (hk1 : k0 ≤ 16777216) :
    Calls Tryd.prog 11 #[.slice a n c, .int .i64 k0] w fun e u => e = .returned (.int .i64 (k0 + tkn xs)) ∧ w.grownBy u none := by
  have hxl : xs.length = n := by have := h.1; rw [mkT_len] at this; exact this
  have hn4 : n ≤ 4194304 := by have := tkn_ge xs; omega
  obtain ⟨vs0, hvr, hvl⟩ := h.lies
  have HV : Hid (TkR w (mkT k0 xs) vs0 ∧ LiesT w a n vs0 ∧ ∀ y ∈ xs, y.text.length ≤ 1048576) := ⟨hvr, hvl, htxt⟩
  clear h hvr hvl htxt
  go_enter Tryd.func11, Tryd.ntmps11
  go_wp2
  go_loopw [1, 5] (fun v i wr => ∃ (j : Nat) (P R : List RToken) (V : List Value), j ≤ n ∧ i = .int .i64 j ∧ v = .int .i64 (k0 + tkn P) ∧ P ++ R = xs ∧ P.length = j ∧ Hid (w.grownBy wr none ∧ vs0.drop (j * 4) = V ∧ TkR w (mkT (k0 + tkn P) R) V)) (fun _ i _ => n - (intOf i).toNat)
  case atStart => exact ⟨0, [], xs, vs0, Nat.zero_le _, rfl, by simp [tkn], rfl, rfl, World.grownBy.refl _ _, rfl, by simpa [tkn] using HV.out.1⟩
  case round =>
    obtain ⟨j, P, R, V, hj, rfl, rfl, hPR, hPl, HL⟩ := hrel
    by_cases hlt : j < n
    · obtain ⟨y, r, rfl⟩ : ∃ y r, R = y :: r := by
        cases R with
        | nil => have := congrArg List.length hPR; simp at this; omega
        | cons y r => exact ⟨y, r, rfl⟩
      obtain ⟨gw, hV, ⟨ta, tl, tc, V', rfl, hb, hR⟩⟩ := HL.out
      have hym : y ∈ xs := by rw [← hPR]; simp
      have hyl0 := HV.out.2.2 y hym
      have hev : tkn xs = tkn P + (y.text.length + 3 + tkn r) := by rw [← hPR, tkn_app]; rfl
      obtain ⟨K, hK⟩ : ∃ K : Int, K = k0 + tkn P := ⟨_, rfl⟩
      have hK0 : 0 ≤ K ∧ K ≤ 33554432 := by omega
      rw [← hK] at hb hR hV
      try rw [← hK]
      simp only [mt1] at hb hV
      have hyl : y.text.length = tl := by have := hb.1.1; rw [mkB_len] at this; exact this
      rw [hyl] at hb hR hyl0
      obtain ⟨b, o, rfl, hc⟩ : ∃ b o, a = some ⟨b, o, none⟩ ∧ ∀ i v, vs0[i]? = some v → w.cell? ⟨b, o + i, none⟩ = some v := by
        rcases HV.out.2.1 with h0 | ⟨b, o, e, hc⟩
        · omega
        · exact ⟨b, o, e, hc⟩
      have ge : ∀ i, vs0[j * 4 + i]? = ([Value.int .i64 K, .int .i64 (K + 1), .int .i64 (K + 2), .slice ta tl tc] ++ V')[i]? := fun i => by rw [← hV, List.getElem?_drop]
      have c0 : wr.cell? ⟨b, o + j * 4, none⟩ = some (.int .i64 K) := gw.cell (by have := hc (j * 4) _ (ge 0); exact this) (by simp)
      have c1 : wr.cell? ⟨b, o + j * 4 + 1, none⟩ = some (.int .i64 (K + 1)) := gw.cell (by have := hc (j * 4 + 1) _ (ge 1); rw [← Nat.add_assoc] at this; exact this) (by simp)
      have c2 : wr.cell? ⟨b, o + j * 4 + 2, none⟩ = some (.int .i64 (K + 1 + 1)) := by rw [show K + 1 + 1 = K + 2 by omega]; exact gw.cell (by have := hc (j * 4 + 2) _ (ge 2); rw [← Nat.add_assoc] at this; exact this) (by simp)
      have c3 : wr.cell? ⟨b, o + j * 4 + 3, none⟩ = some (.slice ta tl tc) := gw.cell (by have := hc (j * 4 + 3) _ (ge 3); rw [← Nat.add_assoc] at this; exact this) (by simp)
      have w1 : IntKind.i64.wrap (K + 1) = K + 1 := IntWalk.i64_in _ ⟨by omega, by omega⟩
      have w2 : IntKind.i64.wrap (K + 1 + 1) = K + 1 + 1 := IntWalk.i64_in _ ⟨by omega, by omega⟩
      have w3 : IntKind.i64.wrap (K + 1 + 1 + 1) = K + 1 + 1 + 1 := IntWalk.i64_in _ ⟨by omega, by omega⟩
      have nn : ¬ (K + 1 + 1 + 1 + (tl : Int) < 0) := by omega
      have CB : Hid _ := heldBs ta tl tc (K + 1 + 1 + 1) wr (by rw [show K + 1 + 1 + 1 = K + 3 by omega]; exact hb.none gw) (by omega) (by omega) (by omega)
      have HE : Hid (K + 1 + 1 + 1 + (tl : Int) = k0 + (tkn (P ++ [y]) : Nat)) := by
        show _ = _
        rw [tkn_app]; simp only [tkn]; omega
      have HM : Hid (w.grownBy wr none ∧ vs0.drop ((j + 1) * 4) = V' ∧ TkR w (mkT (k0 + (tkn (P ++ [y]) : Nat)) r) V' ∧ P ++ y :: r = xs) := by
        refine ⟨gw, ?_, ?_, hPR⟩
        · rw [show (j + 1) * 4 = j * 4 + 4 by omega, ← List.drop_drop, hV]; rfl
        · rw [← HE.out, show K + 1 + 1 + 1 + (tl : Int) = K + ((tl + 3 : Nat) : Int) by omega]; exact hR
      clear HL hV hb hR hc ge hK hK0 hev hPR hym gw
      go_upto_region 13 with fail
      clear c0 c1 c2
      go_wp2_with fail
      refine Calls.mono CB.out ?_
      rintro e u ⟨rfl, hg⟩
      have HG : Hid (w.grownBy u none) := grown_trans HM.out.1 hg
      clear hg CB c3
      simp only []
      go_wp2
      go_roundw
      case rel =>
        refine ⟨j + 1, P ++ [y], r, V', by omega, by go_num, ?_, by rw [List.append_assoc]; exact HM.out.2.2.2, by simp [hPl], HG.out, HM.out.2.1, HM.out.2.2.1⟩
        rw [← HE.out]
      case measure => simp [intOf]; omega
    · obtain rfl : j = n := by omega
      have hR0 : R = [] := by
        have := congrArg List.length hPR
        simp at this
        exact List.eq_nil_of_length_eq_zero (by omega)
      subst hR0
      rw [List.append_nil] at hPR
      subst hPR
      go_wp2
      go_ret
      exact ⟨rfl, HL.out.1⟩
end Go.Proofs.YtaecnhmegdeicaaDoor.By
