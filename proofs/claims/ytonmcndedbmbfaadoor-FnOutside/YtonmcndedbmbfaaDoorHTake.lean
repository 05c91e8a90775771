/-
  The contract of take (words of a heap's half are taken), for this seat's proofs. No statement is proved here.
-/
import Derived.Test.YtonmcndedbmbfaaDoorHOwnT
import Derived.Test.YtonmcndedbmbfaaDoorHRoom
import Derived.Test.YtonmcndedbmbfaaDoorHErr
import Derived.Lib.SliceRun
import Derived.BigRegion
namespace Go.Proofs.YtonmcndedbmbfaaDoor.By
open Go.RowKit
set_option linter.unusedVariables false

/-- Which words cannot be taken. -/
def refused (half low next k : Int) : Prop := k < 1 ∨ 64 < k ∨ low + half - next < k
/-- k words from i on are 0. -/
def zeroAt : List Int → Nat → Nat → List Int
  | ws, _, 0 => ws
  | ws, i, k + 1 => zeroAt (ws.set i 0) (i + 1) k
theorem zeroAt_len : ∀ (k i : Nat) (ws : List Int), (zeroAt ws i k).length = ws.length
  | 0, _, _ => rfl
  | k + 1, i, ws => by rw [zeroAt, zeroAt_len k (i + 1)]; simp
theorem zeroAt_snoc : ∀ (k i : Nat) (ws : List Int), zeroAt ws i (k + 1) = (zeroAt ws i k).set (i + k) 0
  | 0, i, ws => by simp [zeroAt]
  | k + 1, i, ws => by
    rw [zeroAt, zeroAt_snoc k (i + 1), zeroAt]
    have e : i + 1 + k = i + (k + 1) := by omega
    rw [e]
theorem RowAt.zero {t : TypeId} {g off : Nat} : ∀ (k i : Nat) (ws : List Int) (w : World), RowAt w t g off ws → RowAt (w.setCells g (off + i) (List.replicate k (.int .i64 0))) t g off (zeroAt ws i k) ∧ w.grownBy (w.setCells g (off + i) (List.replicate k (.int .i64 0))) (some g)
  | 0, _, _, w, h => ⟨h, World.grownBy.refl _ _⟩
  | k + 1, i, ws, w, h => by
    have s := h.store i 0
    obtain ⟨r, q⟩ := RowAt.zero k (i + 1) (ws.set i 0) _ s
    rw [List.replicate_succ]
    exact ⟨r, grown_trans (grown_setCell w g (off + i) (.int .i64 0)) q⟩

set_option maxHeartbeats 1000000 in
theorem takeNo (p : Nat) (half low next k : Int) (er : Addr) (w : World) (c1 : w.cell? ⟨p, 1, none⟩ = some (.int .i64 half)) (c2 : w.cell? ⟨p, 2, none⟩ = some (.int .i64 low)) (c3 : w.cell? ⟨p, 3, none⟩ = some (.int .i64 next)) (b0 : 0 ≤ half) (b1 : half ≤ 4096) (b2 : 0 ≤ low) (b3 : low ≤ 4096) (b4 : 0 ≤ next) (b5 : next ≤ 8192)
    (he : w.cell? ⟨0, 0, none⟩ = some (.iface 97 (.pointer (some er)))) (h : refused half low next k) :
    Calls Tryd.prog 23 #[.pointer (some ⟨p, 0, none⟩), .int .i64 k] w fun e w' => e = .returned (.tuple #[.int .i64 0, .iface 97 (.pointer (some er))]) ∧ ∃ q, w' = w.drewN q := by
  have R := roomT p half low next w c1 c2 c3 b0 b1 b2 b3 b4 b5
  have HR : Hid _ := R
  clear R
  by_cases k1 : k < 1
  · clear h HR
    go_enter Tryd.func23, Tryd.ntmps23
    go_wp2
    go_quiet (fail)
    go_wp2
    go_ret2
    exact ⟨rfl, _, rfl⟩
  by_cases k2 : 64 < k
  · clear h HR
    go_enter Tryd.func23, Tryd.ntmps23
    go_wp2
    go_quiet (fail)
    go_wp2
    go_ret2
    exact ⟨rfl, _, rfl⟩
  have k3 : low + half - next < k := by rcases h with h | h | h <;> omega
  clear h
  go_enter Tryd.func23, Tryd.ntmps23
  go_wp2_with fail
  refine Calls.mono HR.out ?_
  rintro e w1 ⟨rfl, q, rfl⟩
  clear HR
  simp only []
  go_wp2
  go_quiet (fail)
  go_wp2
  go_ret2
  exact ⟨rfl, q + nq, by rw [World.drewN_drewN]⟩

set_option maxHeartbeats 1000000 in
theorem takeYes (p n m c d g off nx kk : Nat) (b : Option Addr) (half low : Int) (ws : List Int) (w : World)
    (hp : w.heap[p]? = some (.cells #[.slice (some ⟨g, off, none⟩) n c, .int .i64 half, .int .i64 low, .int .i64 (nx : Int), .slice b m d] 26 (0, 0)))
    (hr : RowAt w 3 g off ws) (hl : ws.length = n) (hc : n ≤ c) (hgp : g ≠ p) (b0 : 0 ≤ half) (b1 : half ≤ 4096) (b2 : 0 ≤ low) (b3 : low ≤ 4096) (b5 : nx ≤ 8192) (hn : n ≤ 8192) (hk1 : 1 ≤ kk) (hk2 : kk ≤ 64) (hk3 : (kk : Int) ≤ low + half - nx) (hfit : nx + kk ≤ n) :
    Calls Tryd.prog 23 #[.pointer (some ⟨p, 0, none⟩), .int .i64 (kk : Int)] w fun e w' => e = .returned (.tuple #[.int .i64 (nx : Int), .nilIface]) ∧ w'.heap[p]? = some (.cells #[.slice (some ⟨g, off, none⟩) n c, .int .i64 half, .int .i64 low, .int .i64 ((nx : Int) + (kk : Int)), .slice b m d] 26 (0, 0)) ∧ RowAt w' 3 g off (zeroAt ws nx kk) ∧ ∃ w1, w.grownBy w1 (some p) ∧ w1.grownBy w' (some g) := by
  obtain ⟨⟨v0, v1, v2, v3, v4⟩, -, -, -, f3, -⟩ := five hp
  have R := roomT p half low (nx : Int) w v1 v2 v3 b0 b1 b2 b3 (by omega) (by omega)
  have HR : Hid _ := R
  have HP : Hid _ := And.intro hp hr
  have q1 : ¬ ((kk : Int) < 1) := by omega
  have q2 : ¬ (64 < (kk : Int)) := by omega
  have q3 : ¬ (low + half - (nx : Int) < (kk : Int)) := by omega
  clear R hp hr
  go_enter Tryd.func23, Tryd.ntmps23
  go_wp2_with fail
  refine Calls.mono HR.out ?_
  rintro e w1 ⟨rfl, q, rfl⟩
  clear HR
  simp only []
  go_wp2
  obtain ⟨hp, hr⟩ := HP.out
  have kg : w.grownBy ((w.drewN q).setCell ⟨p, 3, none⟩ (.int .i64 ((nx : Int) + (kk : Int)))) (some p) := grown_trans (grown_drewN w q _) (grown_setCell _ _ _ _)
  have hp' := heap_setCell_same (w.drewN q) p 3 _ 26 (.int .i64 ((nx : Int) + (kk : Int))) (show (w.drewN q).heap[p]? = _ from ((grown_drewN w q none).block p (lt_of_block hp) (by simp)).trans hp)
  have hr' := hr.kept kg (by simp; omega)
  clear HP v0 v1 v2 v3 v4 f3
  generalize (w.drewN q).setCell ⟨p, 3, none⟩ (.int .i64 ((nx : Int) + (kk : Int))) = u at *
  have hp'' : u.heap[p]? = some (.cells #[.slice (some ⟨g, off, none⟩) n c, .int .i64 half, .int .i64 low, .int .i64 ((nx : Int) + (kk : Int)), .slice b m d] 26 (0, 0)) := hp'
  obtain ⟨⟨v0, v1, v2, v3, v4⟩, -⟩ := five hp''
  have hd := grown_drew (World.grownBy.refl u none)
  obtain ⟨rz, gz⟩ := RowAt.zero kk nx ws u.drew (hr'.kept hd (by simp))
  have bz := (gz.block p (by have := lt_of_block hp''; have := hd.size; omega) (by simp; omega)).trans ((hd.block p (lt_of_block hp'') (by simp)).trans hp'')
  have hcl : ∀ ty, (Builtin.clear_ #[23] ty #[.slice (some ⟨g, off + nx, none⟩) kk (c - nx)]).run Tryd.prog u.drew = .ok (.tuple #[]) (u.drew.setCells g (off + nx) (List.replicate kk (.int .i64 0))) := fun ty =>
    Lib.run_clear_slice u.drew 23 3 ty (.int .i64 0) Tryd.underlying23 (fun w => by kernel_rfl) rfl rfl g (off + nx) kk (c - nx) (by omega)
      (fun j hj => by have := (hr'.kept hd (by simp)).cell (nx + j) (by omega); rw [← Nat.add_assoc] at this; rw [this]; rfl) (fun j hj => (hr'.kept hd (by simp)).free _)
  have FIN : Hid _ := And.intro bz (And.intro rz (And.intro kg (grown_trans (grown_none hd (some g)) gz)))
  have i1 : (nx : Int) ≤ (nx : Int) + (kk : Int) := by omega
  have i2 : (nx : Int) + (kk : Int) ≤ (c : Int) := by omega
  have i3 : ¬ c = nx := by omega
  have i4 : ((nx : Int) + (kk : Int)).toNat - nx = kk := by omega
  clear hp hr hp' hr' hp'' hd rz gz bz kg hl hc hfit
  go_region
  go_wp2
  go_ret2
  obtain ⟨z1, z2, z3, z4⟩ := FIN.out
  exact ⟨rfl, z1, z2, u, z3, z4⟩
end Go.Proofs.YtonmcndedbmbfaaDoor.By
