/-
  How many nodes, as far as there is room: the program's own count by its contract. No statement is proved here.
-/
import Derived.Test.YtbeejgacdcncgaaGHL
namespace Go.Proofs.Ytbeejgacdcncgaa.By
open Go.RowKit
set_option linter.unusedVariables false
set_option linter.unusedSimpArgs false

/-- What is left of a list from place j on. -/
def TlGL (w : World) (al : Bool) (a : Option Addr) (j l : Nat) (g : GL) : Prop := g.len + j = l ∧ (g = .nil ∨ ∃ b o, a = some ⟨b, o, none⟩ ∧ InGL w w al g b (o + j * wdL al))
theorem SlGL.tl {w : World} {al : Bool} {a : Option Addr} {l : Nat} {g : GL} (h : SlGL w al a l g) : TlGL w al a 0 l g := by
  refine ⟨h.1, ?_⟩
  rcases h.cases with ⟨-, e⟩ | ⟨b, o, e, hin, -⟩
  · exact .inl e
  · exact .inr ⟨b, o, e, by simpa using hin⟩
theorem TlGL.le {w u : World} {al : Bool} {a : Option Addr} {j l : Nat} {g : GL} (h : TlGL w al a j l g) (k : CLe w u) : TlGL u al a j l g := by
  refine ⟨h.1, ?_⟩
  rcases h.2 with e | ⟨b, o, e, hin⟩
  · exact .inl e
  · exact .inr ⟨b, o, e, hin.le k k⟩


set_option maxRecDepth 4000 in
set_option maxHeartbeats 8000000 in
theorem lnT_of (kids alts : GL) (m : Nat) (ih : ∀ (kids alts : GL) (b q : Nat) (a4 : Option Addr) (l4 c4 : Nat) (a5 : Option Addr) (l5 c5 : Nat) (room : Nat) (w : World), kids.cnt + alts.cnt + 1 ≤ m → w.cell? ⟨b, q + 11, none⟩ = some (.slice a4 l4 c4) → w.cell? ⟨b, q + 12, none⟩ = some (.slice a5 l5 c5) → SlGL w false a4 l4 kids → SlGL w true a5 l5 alts → 1 ≤ room → room ≤ 1501 →
    Calls Try.prog 18 #[.pointer (some ⟨b, q, none⟩), .int .i64 room] w fun e u => e = .returned (.int .i64 (min (1 + kids.cnt + alts.cnt) room : Nat)) ∧ w.grownBy u none)
    (b q : Nat) (a4 : Option Addr) (l4 c4 : Nat) (a5 : Option Addr) (l5 c5 : Nat) (room : Nat) (w : World) (hm : kids.cnt + alts.cnt ≤ m) (k4 : w.cell? ⟨b, q + 11, none⟩ = some (.slice a4 l4 c4)) (k5 : w.cell? ⟨b, q + 12, none⟩ = some (.slice a5 l5 c5)) (h4 : SlGL w false a4 l4 kids) (h5 : SlGL w true a5 l5 alts) (hr1 : 1 ≤ room) (hr2 : room ≤ 1501) :
    Calls Try.prog 18 #[.pointer (some ⟨b, q, none⟩), .int .i64 room] w fun e u => e = .returned (.int .i64 (min (1 + kids.cnt + alts.cnt) room : Nat)) ∧ w.grownBy u none := by
  have hl4 := h4.2.1
  have hl5 := h5.2.1
  have IH : Hid _ := ih
  have H4 : Hid (TlGL w false a4 0 l4 kids) := h4.tl
  have H5 : Hid (∀ u, w.grownBy u none → TlGL u true a5 0 l5 alts) := fun u hu => h5.tl.le (CLe.grown hu)
  have KC : Hid (∀ u, w.grownBy u none → u.cell? ⟨b, q + 11, none⟩ = some (.slice a4 l4 c4) ∧ u.cell? ⟨b, q + 12, none⟩ = some (.slice a5 l5 c5)) := fun u hu => ⟨hu.cell k4 (by simp), hu.cell k5 (by simp)⟩
  clear ih h4 h5
  go_enter Try.func18, Try.ntmps18
  go_wp2
  go_loopw [5, 6] (fun v i wr => ∃ (j C s : Nat) (R : GL), j ≤ l4 ∧ i = .int .i64 j ∧ v = .int .i64 C ∧ C ≤ room ∧ 1 ≤ C ∧ Hid (w.grownBy wr none ∧ TlGL wr false a4 j l4 R ∧ s + R.cnt = kids.cnt ∧ C = min (1 + s) room)) (fun _ i _ => l4 - (intOf i).toNat)
  case atStart => exact ⟨0, 1, 0, kids, Nat.zero_le _, rfl, rfl, by omega, by omega, World.grownBy.refl _ _, H4.out, by omega, by omega⟩
  case round =>
    clear k4 k5 H4
    obtain ⟨j, C, s, R, hj, rfl, rfl, hC1, hC2, HR4⟩ := hrel
    have hq4 := (KC.out _ HR4.out.1).1
    have hq5 := (KC.out _ HR4.out.1).2
    by_cases hlt : j < l4
    · by_cases hlt2 : C < room
      · skip
        obtain ⟨hgr, ⟨hRl, hR⟩, hsum, hCe⟩ := HR4.out
        obtain ⟨q', hq'⟩ : ∃ q', R.len = q' + 1 := ⟨R.len - 1, by omega⟩
        rcases hR with rfl | ⟨b4, o4, ea, hin⟩
        · simp [GL.len] at hq'
        obtain ⟨hc, hv, p, kk, aa, R', rfl, hR'⟩ := GL.cons_of_len hq'
        obtain ⟨-, e1, f1, g1, e2, f2, g2, e3, f3, g3, e4, f4, g4, e5, f5, g5, kc, hnd, hR2⟩ := hin.kid
        have x1 : wr.cell? ⟨b4, o4 + j * 13 + 11, none⟩ = _ := kc.2.2.2.2.2.2.2.2.2.2.2.1
        have x2 : wr.cell? ⟨b4, o4 + j * 13 + 12, none⟩ = _ := kc.2.2.2.2.2.2.2.2.2.2.2.2
        have CC : Hid _ := IH.out kk aa b4 (o4 + j * 13) e4 f4 g4 e5 f5 g5 (room - C) wr (by simp only [GL.cnt] at hsum; omega) x1 x2 hnd.2.2.2.1 hnd.2.2.2.2 (by omega) (by omega)
        have FX : Hid (w.grownBy wr none ∧ InGL wr wr false R' b4 (o4 + (j + 1) * 13) ∧ (s + (1 + kk.cnt + aa.cnt)) + R'.cnt = kids.cnt ∧ C = min (1 + s) room) := ⟨hgr, by rw [show o4 + (j + 1) * 13 = o4 + j * 13 + 13 by omega]; exact hR2, by simp only [GL.cnt] at hsum; omega, hCe⟩
        clear hgr hsum hCe hin kc hnd hR2 x1 x2 HR4
        simp only [GL.len] at hRl
        subst ea
        have ecr : (room : Int) - (C : Int) = ((room - C : Nat) : Int) := by omega
        go_wp2_with fail
        (try rw [ecr])
        refine Calls.mono CC.out ?_
        rintro e u ⟨he, hgu⟩
        subst he
        have FY : Hid (w.grownBy u none ∧ TlGL u false (some ⟨b4, o4, none⟩) (j + 1) l4 R' ∧ (s + (1 + kk.cnt + aa.cnt)) + R'.cnt = kids.cnt ∧ C = min (1 + s) room) := ⟨grown_trans FX.out.1 hgu, ⟨by omega, .inr ⟨b4, o4, rfl, FX.out.2.1.le (CLe.grown hgu) (CLe.grown hgu)⟩⟩, FX.out.2.2⟩
        clear FX CC hgu
        have hml : min (1 + kk.cnt + aa.cnt) (room - C) ≤ room - C := Nat.min_le_right _ _
        have hm1 : 1 ≤ min (1 + kk.cnt + aa.cnt) (room - C) := by omega
        have hmc : min (1 + kk.cnt + aa.cnt) (room - C) = 1 + kk.cnt + aa.cnt ∨ min (1 + kk.cnt + aa.cnt) (room - C) = room - C := by omega
        generalize hM : min (1 + kk.cnt + aa.cnt) (room - C) = M at *
        simp only []
        go_wp2
        go_roundw
        case rel => exact ⟨j + 1, C + M, s + (1 + kk.cnt + aa.cnt), R', by omega, by go_num, by go_num, by omega, by omega, FY.out.1, FY.out.2.1, FY.out.2.2.1, by have := FY.out.2.2.2; omega⟩
        case measure => simp [intOf]; omega
      · have HC : Hid (C = min (1 + kids.cnt) room) := by show C = _; have := HR4.out.2.2; omega
        have HG : Hid (w.grownBy wr none) := HR4.out.1
        clear HR4
        go_wp2
        go_loopw [5, 7] (fun v i wr => ∃ (j C s : Nat) (R : GL), j ≤ l5 ∧ i = .int .i64 j ∧ v = .int .i64 C ∧ C ≤ room ∧ 1 ≤ C ∧ Hid (w.grownBy wr none ∧ TlGL wr true a5 j l5 R ∧ s + R.cnt = alts.cnt ∧ C = min (1 + kids.cnt + s) room)) (fun _ i _ => l5 - (intOf i).toNat)
        case atStart => exact ⟨0, C, 0, alts, Nat.zero_le _, rfl, rfl, hC1, hC2, HG.out, H5.out _ HG.out, by omega, by have := HC.out; omega⟩
        case round =>
          clear HC HG hq4 hq5 hj hC1 hC2
          obtain ⟨j, C, s, R, hj, rfl, rfl, hC1, hC2, HR5⟩ := hrel
          have hq4 := (KC.out _ HR5.out.1).1
          have hq5 := (KC.out _ HR5.out.1).2
          by_cases hlt : j < l5
          · by_cases hlt2 : C < room
            · skip
              obtain ⟨hgr, ⟨hRl, hR⟩, hsum, hCe⟩ := HR5.out
              obtain ⟨q', hq'⟩ : ∃ q', R.len = q' + 1 := ⟨R.len - 1, by omega⟩
              rcases hR with rfl | ⟨b4, o4, ea, hin⟩
              · simp [GL.len] at hq'
              obtain ⟨hc, hv, p, kk, aa, R', rfl, hR'⟩ := GL.cons_of_len hq'
              obtain ⟨x0, y0, z0, e1, f1, g1, e2, f2, g2, e3, f3, g3, e4, f4, g4, e5, f5, g5, -, -, kc, hnd, hR2⟩ := hin.alt
              have x1 : wr.cell? ⟨b4, o4 + j * 15 + 2 + 11, none⟩ = _ := kc.2.2.2.2.2.2.2.2.2.2.2.1
              have x2 : wr.cell? ⟨b4, o4 + j * 15 + 2 + 12, none⟩ = _ := kc.2.2.2.2.2.2.2.2.2.2.2.2
              have CC : Hid _ := IH.out kk aa b4 (o4 + j * 15 + 2) e4 f4 g4 e5 f5 g5 (room - C) wr (by simp only [GL.cnt] at hsum; omega) x1 x2 hnd.2.2.2.1 hnd.2.2.2.2 (by omega) (by omega)
              have FX : Hid (w.grownBy wr none ∧ InGL wr wr true R' b4 (o4 + (j + 1) * 15) ∧ (s + (1 + kk.cnt + aa.cnt)) + R'.cnt = alts.cnt ∧ C = min (1 + kids.cnt + s) room) := ⟨hgr, by rw [show o4 + (j + 1) * 15 = o4 + j * 15 + 15 by omega]; exact hR2, by simp only [GL.cnt] at hsum; omega, hCe⟩
              clear hgr hsum hCe hin kc hnd hR2 x1 x2 HR5
              simp only [GL.len] at hRl
              subst ea
              have ecr : (room : Int) - (C : Int) = ((room - C : Nat) : Int) := by omega
              go_wp2_with fail
              (try rw [ecr])
              refine Calls.mono CC.out ?_
              rintro e u ⟨he, hgu⟩
              subst he
              have FY : Hid (w.grownBy u none ∧ TlGL u true (some ⟨b4, o4, none⟩) (j + 1) l5 R' ∧ (s + (1 + kk.cnt + aa.cnt)) + R'.cnt = alts.cnt ∧ C = min (1 + kids.cnt + s) room) := ⟨grown_trans FX.out.1 hgu, ⟨by omega, .inr ⟨b4, o4, rfl, FX.out.2.1.le (CLe.grown hgu) (CLe.grown hgu)⟩⟩, FX.out.2.2⟩
              clear FX CC hgu
              have hml : min (1 + kk.cnt + aa.cnt) (room - C) ≤ room - C := Nat.min_le_right _ _
              have hm1 : 1 ≤ min (1 + kk.cnt + aa.cnt) (room - C) := by omega
              have hmc : min (1 + kk.cnt + aa.cnt) (room - C) = 1 + kk.cnt + aa.cnt ∨ min (1 + kk.cnt + aa.cnt) (room - C) = room - C := by omega
              generalize hM : min (1 + kk.cnt + aa.cnt) (room - C) = M at *
              simp only []
              go_wp2
              go_roundw
              case rel => exact ⟨j + 1, C + M, s + (1 + kk.cnt + aa.cnt), R', by omega, by go_num, by go_num, by omega, by omega, FY.out.1, FY.out.2.1, FY.out.2.2.1, by have := FY.out.2.2.2; omega⟩
              case measure => simp [intOf]; omega
            · have E : Hid (w.grownBy wr none ∧ C = min (1 + kids.cnt + alts.cnt) room) := ⟨HR5.out.1, by have := HR5.out.2.2; omega⟩
              clear HR5
              go_wp2
              go_ret
              exact ⟨by rw [← E.out.2]; rfl, E.out.1⟩
          · have E : Hid (w.grownBy wr none ∧ C = min (1 + kids.cnt + alts.cnt) room) := ⟨HR5.out.1, by
              obtain ⟨-, ⟨h1, -⟩, h2, h3⟩ := HR5.out
              obtain rfl : R = .nil := GL.nil_of_len (by omega)
              simp only [GL.cnt] at h2; omega⟩
            clear HR5
            go_wp2
            go_ret
            exact ⟨by rw [← E.out.2]; rfl, E.out.1⟩
    · have HC : Hid (C = min (1 + kids.cnt) room) := by
        show C = _
        obtain ⟨-, ⟨h1, -⟩, h2, h3⟩ := HR4.out
        obtain rfl : R = .nil := GL.nil_of_len (by omega)
        simp only [GL.cnt] at h2; omega
      have HG : Hid (w.grownBy wr none) := HR4.out.1
      clear HR4
      go_wp2
      go_loopw [5, 7] (fun v i wr => ∃ (j C s : Nat) (R : GL), j ≤ l5 ∧ i = .int .i64 j ∧ v = .int .i64 C ∧ C ≤ room ∧ 1 ≤ C ∧ Hid (w.grownBy wr none ∧ TlGL wr true a5 j l5 R ∧ s + R.cnt = alts.cnt ∧ C = min (1 + kids.cnt + s) room)) (fun _ i _ => l5 - (intOf i).toNat)
      case atStart => exact ⟨0, C, 0, alts, Nat.zero_le _, rfl, rfl, hC1, hC2, HG.out, H5.out _ HG.out, by omega, by have := HC.out; omega⟩
      case round =>
        clear HC HG hq4 hq5 hj hC1 hC2
        obtain ⟨j, C, s, R, hj, rfl, rfl, hC1, hC2, HR5⟩ := hrel
        have hq4 := (KC.out _ HR5.out.1).1
        have hq5 := (KC.out _ HR5.out.1).2
        by_cases hlt : j < l5
        · by_cases hlt2 : C < room
          · skip
            obtain ⟨hgr, ⟨hRl, hR⟩, hsum, hCe⟩ := HR5.out
            obtain ⟨q', hq'⟩ : ∃ q', R.len = q' + 1 := ⟨R.len - 1, by omega⟩
            rcases hR with rfl | ⟨b4, o4, ea, hin⟩
            · simp [GL.len] at hq'
            obtain ⟨hc, hv, p, kk, aa, R', rfl, hR'⟩ := GL.cons_of_len hq'
            obtain ⟨x0, y0, z0, e1, f1, g1, e2, f2, g2, e3, f3, g3, e4, f4, g4, e5, f5, g5, -, -, kc, hnd, hR2⟩ := hin.alt
            have x1 : wr.cell? ⟨b4, o4 + j * 15 + 2 + 11, none⟩ = _ := kc.2.2.2.2.2.2.2.2.2.2.2.1
            have x2 : wr.cell? ⟨b4, o4 + j * 15 + 2 + 12, none⟩ = _ := kc.2.2.2.2.2.2.2.2.2.2.2.2
            have CC : Hid _ := IH.out kk aa b4 (o4 + j * 15 + 2) e4 f4 g4 e5 f5 g5 (room - C) wr (by simp only [GL.cnt] at hsum; omega) x1 x2 hnd.2.2.2.1 hnd.2.2.2.2 (by omega) (by omega)
            have FX : Hid (w.grownBy wr none ∧ InGL wr wr true R' b4 (o4 + (j + 1) * 15) ∧ (s + (1 + kk.cnt + aa.cnt)) + R'.cnt = alts.cnt ∧ C = min (1 + kids.cnt + s) room) := ⟨hgr, by rw [show o4 + (j + 1) * 15 = o4 + j * 15 + 15 by omega]; exact hR2, by simp only [GL.cnt] at hsum; omega, hCe⟩
            clear hgr hsum hCe hin kc hnd hR2 x1 x2 HR5
            simp only [GL.len] at hRl
            subst ea
            have ecr : (room : Int) - (C : Int) = ((room - C : Nat) : Int) := by omega
            go_wp2_with fail
            (try rw [ecr])
            refine Calls.mono CC.out ?_
            rintro e u ⟨he, hgu⟩
            subst he
            have FY : Hid (w.grownBy u none ∧ TlGL u true (some ⟨b4, o4, none⟩) (j + 1) l5 R' ∧ (s + (1 + kk.cnt + aa.cnt)) + R'.cnt = alts.cnt ∧ C = min (1 + kids.cnt + s) room) := ⟨grown_trans FX.out.1 hgu, ⟨by omega, .inr ⟨b4, o4, rfl, FX.out.2.1.le (CLe.grown hgu) (CLe.grown hgu)⟩⟩, FX.out.2.2⟩
            clear FX CC hgu
            have hml : min (1 + kk.cnt + aa.cnt) (room - C) ≤ room - C := Nat.min_le_right _ _
            have hm1 : 1 ≤ min (1 + kk.cnt + aa.cnt) (room - C) := by omega
            have hmc : min (1 + kk.cnt + aa.cnt) (room - C) = 1 + kk.cnt + aa.cnt ∨ min (1 + kk.cnt + aa.cnt) (room - C) = room - C := by omega
            generalize hM : min (1 + kk.cnt + aa.cnt) (room - C) = M at *
            simp only []
            go_wp2
            go_roundw
            case rel => exact ⟨j + 1, C + M, s + (1 + kk.cnt + aa.cnt), R', by omega, by go_num, by go_num, by omega, by omega, FY.out.1, FY.out.2.1, FY.out.2.2.1, by have := FY.out.2.2.2; omega⟩
            case measure => simp [intOf]; omega
          · have E : Hid (w.grownBy wr none ∧ C = min (1 + kids.cnt + alts.cnt) room) := ⟨HR5.out.1, by have := HR5.out.2.2; omega⟩
            clear HR5
            go_wp2
            go_ret
            exact ⟨by rw [← E.out.2]; rfl, E.out.1⟩
        · have E : Hid (w.grownBy wr none ∧ C = min (1 + kids.cnt + alts.cnt) room) := ⟨HR5.out.1, by
            obtain ⟨-, ⟨h1, -⟩, h2, h3⟩ := HR5.out
            obtain rfl : R = .nil := GL.nil_of_len (by omega)
            simp only [GL.cnt] at h2; omega⟩
          clear HR5
          go_wp2
          go_ret
          exact ⟨by rw [← E.out.2]; rfl, E.out.1⟩

theorem lnT (m : Nat) : ∀ (kids alts : GL) (b q : Nat) (a4 : Option Addr) (l4 c4 : Nat) (a5 : Option Addr) (l5 c5 : Nat) (room : Nat) (w : World), kids.cnt + alts.cnt ≤ m → w.cell? ⟨b, q + 11, none⟩ = some (.slice a4 l4 c4) → w.cell? ⟨b, q + 12, none⟩ = some (.slice a5 l5 c5) → SlGL w false a4 l4 kids → SlGL w true a5 l5 alts → 1 ≤ room → room ≤ 1501 →
    Calls Try.prog 18 #[.pointer (some ⟨b, q, none⟩), .int .i64 room] w fun e u => e = .returned (.int .i64 (min (1 + kids.cnt + alts.cnt) room : Nat)) ∧ w.grownBy u none := by
  induction m with
  | zero =>
    intro kids alts b q a4 l4 c4 a5 l5 c5 room w hm k4 k5 h4 h5 hr1 hr2
    exact lnT_of kids alts 0 (fun _ _ _ _ _ _ _ _ _ _ _ _ h => absurd h (by omega)) b q a4 l4 c4 a5 l5 c5 room w hm k4 k5 h4 h5 hr1 hr2
  | succ m ih =>
    intro kids alts b q a4 l4 c4 a5 l5 c5 room w hm k4 k5 h4 h5 hr1 hr2
    exact lnT_of kids alts (m + 1) (fun kids alts b q a4 l4 c4 a5 l5 c5 room w h => ih kids alts b q a4 l4 c4 a5 l5 c5 room w (by omega)) b q a4 l4 c4 a5 l5 c5 room w hm k4 k5 h4 h5 hr1 hr2

theorem implLowNodesT (p : PL) (kids alts : GL) (a1 : Option Addr) (l1 c1 : Nat) (a2 : Option Addr) (l2 c2 : Nat) (a3 : Option Addr) (l3 c3 : Nat) (a4 : Option Addr) (l4 c4 : Nat) (a5 : Option Addr) (l5 c5 : Nat) (w : World) (h : NdL w p kids alts a1 l1 a2 l2 a3 l3 a4 l4 a5 l5) :
    Calls Try.prog 7 #[.agg #[.int .i64 p.k, .int .i64 p.n, .int .i64 p.m, .int .i64 p.c, .slice a1 l1 c1, .int .i64 p.tk, .int .i64 p.tn, .slice a2 l2 c2, .int .i64 p.uk, .int .i64 p.un, .slice a3 l3 c3, .slice a4 l4 c4, .slice a5 l5 c5]] w fun e u => e = .returned (.int .i64 (min (1 + kids.cnt + alts.cnt) 1501 : Nat)) ∧ w.grownBy u none := by
  have g0 := World.grownBy_alloc w (.cells #[.int .i64 p.k, .int .i64 p.n, .int .i64 p.m, .int .i64 p.c, .slice a1 l1 c1, .int .i64 p.tk, .int .i64 p.tn, .slice a2 l2 c2, .int .i64 p.uk, .int .i64 p.un, .slice a3 l3 c3, .slice a4 l4 c4, .slice a5 l5 c5] 38) none
  have b0 := heap_alloc_new w (.cells #[.int .i64 p.k, .int .i64 p.n, .int .i64 p.m, .int .i64 p.c, .slice a1 l1 c1, .int .i64 p.tk, .int .i64 p.tn, .slice a2 l2 c2, .int .i64 p.uk, .int .i64 p.un, .slice a3 l3 c3, .slice a4 l4 c4, .slice a5 l5 c5] 38)
  obtain ⟨⟨y0, y1, y2, y3, y4, y5, y6, y7, y8, y9, y10, y11, y12⟩, -⟩ := blkL b0
  have C0 : Hid _ := lnT (kids.cnt + alts.cnt) kids alts w.heap.size 0 a4 l4 c4 a5 l5 c5 1501 _ (Nat.le_refl _) y11 y12 (h.2.2.2.1.none g0) (h.2.2.2.2.none g0) (by omega) (by omega)
  have G0 : Hid _ := g0
  clear g0 b0 h
  go_enter Try.func7, Try.ntmps7
  go_wp2_with fail
  refine Calls.mono C0.out ?_
  rintro e u ⟨he, hgu⟩
  subst he
  have GF : Hid (w.grownBy u none) := grown_trans G0.out hgu
  clear C0 G0 hgu y0 y1 y2 y3 y4 y5 y6 y7 y8 y9 y10 y11 y12
  simp only []
  go_wp2
  go_ret
  exact ⟨rfl, GF.out⟩
end Go.Proofs.Ytbeejgacdcncgaa.By
