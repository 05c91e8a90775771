/-
  Several texts in one (Help, EC0). No statement is proved here.
-/
import Derived.Test.YtccnninmkfhejaaGQAlso
import Derived.Test.YtccnninmkfhejaaHMkAlso
namespace Go.Proofs.Ytccnninmkfhejaa.By
open Go.RowKit
set_option linter.unusedVariables false

set_option maxHeartbeats 1000000 in
theorem toB0 (a : Option Addr) (n cap : Nat) (zs : List Int) (w : World) (h : Reads w a n zs) (hn : n ≤ 1048576) :
    Calls Try.prog 14 #[.slice a n cap] w fun e w' => e = .returned (.slice (some ⟨w.heap.size, 0, none⟩) n n) ∧ w.grownBy w' none ∧ w'.heap.size = w.heap.size + 1 ∧ Row w' w.heap.size n zs := by
  obtain ⟨hl, h⟩ := h
  have hmk := make_run n (by omega)
  have hr0 := made_row w n
  rcases h with h0 | ⟨b, off, rfl, hc⟩
  · subst h0
    obtain rfl : zs = [] := List.eq_nil_of_length_eq_zero hl
    clear hmk
    have hmk := make_run0
    go_enter Try.func14, Try.ntmps14
    go_wp2
    refine wp_loop_rounds 1 ?_
    rw [rounds_succ]
    go_wp2
    go_ret
    exact ⟨rfl, World.grownBy_alloc _ _ _, by simp, hr0⟩
  · go_enter Try.func14, Try.ntmps14
    go_wp2
    go_loopw [4] (fun i wr => ∃ k : Nat, k ≤ n ∧ i = .int .i64 k ∧ w.grownBy wr none ∧ wr.heap.size = w.heap.size + 1 ∧ Row wr w.heap.size n (zs.take k ++ List.replicate (n - k) 0)) (fun i _ => n - (intOf i).toNat)
    case atStart => exact ⟨0, Nat.zero_le _, rfl, World.grownBy_alloc _ _ _, by simp, by simpa using hr0⟩
    case round =>
      obtain ⟨k, hk, rfl, hg, hs, hrow⟩ := hrel
      have hlt0 : k < n → w.cell? ⟨b, off + k, none⟩ = some (.int .u8 (zs.getD k 0)) := hc k
      by_cases hlt : k < n
      · have hcb := hg.cell (hc k hlt) (by simp)
        have hlen : (zs.take k ++ List.replicate (n - k) 0).length = n := by simp; omega
        have hco := hrow.cell k (by omega)
        have hfr := hrow.free k
        have hst := hrow.store k (zs.getD k 0)
        have hrow' : Row (wr.setCell ⟨w.heap.size, k, none⟩ (.int .u8 (zs.getD k 0))) w.heap.size n (zs.take (k + 1) ++ List.replicate (n - (k + 1)) 0) := by
          have e : (zs.take k ++ List.replicate (n - k) 0).set k (zs.getD k 0) = zs.take (k + 1) ++ List.replicate (n - (k + 1)) 0 := set_step zs n k hl hlt
          rw [← e]; exact hst
        have HR : Hid (Row (wr.setCell ⟨w.heap.size, k, none⟩ (.int .u8 (zs.getD k 0))) w.heap.size n (zs.take (k + 1) ++ List.replicate (n - (k + 1)) 0)) := hrow'
        have HG : Hid (w.grownBy (wr.setCell ⟨w.heap.size, k, none⟩ (.int .u8 (zs.getD k 0))) none) := grown_own hg _ (Nat.le_refl _) _ _
        clear hst hrow' hmk hr0 hrow hlen
        have hkz : k < zs.length := by omega
        go_wp2
        go_roundw
        case rel => exact ⟨k + 1, by omega, by go_num, by simpa [hkz] using HG.out, by simpa [World.setCell] using hs, by simpa [hkz] using HR.out⟩
        case measure => simp [intOf]; omega
      · obtain rfl : k = n := by omega
        clear hmk hr0
        go_wp2
        go_ret
        exact ⟨rfl, hg, hs, by simpa [List.take_of_length_le (Nat.le_of_eq hl)] using hrow⟩

theorem toB (a : Option Addr) (n cap : Nat) (zs : List Int) (w : World) (h : Reads w a n zs) (hn : n ≤ 1048576) :
    Calls Try.prog 14 #[.slice a n cap] w fun e w' => ∃ g, e = .returned (.slice (some ⟨g, 0, none⟩) n n) ∧ w.grownBy w' none ∧ w.heap.size ≤ g ∧ Row w' g n zs :=
  (toB0 a n cap zs w h hn).mono fun e w' ⟨he, hg, _, hr⟩ => ⟨_, he, hg, Nat.le_refl _, hr⟩

set_option maxHeartbeats 1000000 in
theorem eqT (a a' : Option Addr) (n cap cap' : Nat) (zs : List Int) (w : World) (h : Reads w a n zs) (h' : Reads w a' n zs) (hn : n ≤ 4194304) :
    Calls Try.prog 16 #[.slice a n cap, .slice a' n cap'] w fun e w' => e = .returned (.bool true) ∧ ∃ m, w' = w.drewN m := by
  obtain ⟨hl, h⟩ := h
  obtain ⟨-, h'⟩ := h'
  by_cases h0 : n = 0
  · subst h0
    clear h h'
    go_enter Try.func16, Try.ntmps16
    go_wp2
    refine wp_loop_rounds 1 ?_
    rw [rounds_succ]
    go_wp2
    go_ret
    exact ⟨rfl, 0, rfl⟩
  · rcases h with h | ⟨b, off, rfl, hc⟩
    · exact absurd h h0
    rcases h' with h' | ⟨b', off', rfl, hc'⟩
    · exact absurd h' h0
    go_enter Try.func16, Try.ntmps16
    go_wp2
    go_loopw [5] (fun i wr => ∃ k m : Nat, k ≤ n ∧ i = .int .i64 k ∧ wr = w.drewN m) (fun i _ => n - (intOf i).toNat)
    case atStart => exact ⟨0, 0, Nat.zero_le _, rfl, rfl⟩
    case round =>
      obtain ⟨k, m, hk, rfl, rfl⟩ := hrel
      by_cases hlt : k < n
      · have c1 := hc k hlt
        have c2 := hc' k hlt
        have hki : (k : Int) < (n : Int) := by omega
        go_wp2
        go_quiet (fail)
        go_wp2
        go_roundw
        case rel => exact ⟨k + 1, _, by omega, by go_num, rfl⟩
        case measure => simp [intOf]; omega
      · go_wp2
        go_ret
        exact ⟨rfl, m, rfl⟩

set_option maxHeartbeats 1000000 in
theorem markT (g n cap : Nat) (zs : List Int) (k0 : Int) (w : World) (h : Row w g cap zs) (hl : zs.length = n) (hn : n ≤ 4194304) (hk0 : 0 ≤ k0) (hk1 : k0 ≤ 4194304) :
    Calls Try.prog 18 #[.slice (some ⟨g, 0, none⟩) n cap, .int .i64 k0] w fun e w' => e = .returned (.int .i64 (k0 + n)) ∧ w.grownBy w' (some g) ∧ w'.heap.size = w.heap.size ∧ Row w' g cap (marks k0 n) := by
  go_enter Try.func18, Try.ntmps18
  go_wp2
  go_loopw [1, 5] (fun v i wr => ∃ k : Nat, k ≤ n ∧ i = .int .i64 k ∧ v = .int .i64 (k0 + k) ∧ w.grownBy wr (some g) ∧ wr.heap.size = w.heap.size ∧ Row wr g cap (half zs k0 k)) (fun _ i _ => n - (intOf i).toNat)
  case atStart => exact ⟨0, Nat.zero_le _, rfl, by simp, World.grownBy.refl _ _, rfl, by rw [half_zero]; exact h⟩
  case round =>
    obtain ⟨k, hk, rfl, rfl, hg, hs, hrow⟩ := hrel
    by_cases hlt : k < n
    · have hco := hrow.cell k (by rw [half_len _ _ _ (by omega)]; omega)
      have hfr := hrow.free k
      have hst := hrow.store k ((k0 + k) % 256)
      rw [half_step _ _ _ (by omega)] at hst
      have HR : Hid (Row (wr.setCell ⟨g, k, none⟩ (.int .u8 ((k0 + k) % 256))) g cap (half zs k0 (k + 1))) := hst
      have HG : Hid (w.grownBy (wr.setCell ⟨g, k, none⟩ (.int .u8 ((k0 + k) % 256))) (some g)) := grown_trans hg (grown_setCell _ _ _ _)
      obtain ⟨old, hold⟩ : ∃ x, wr.cell? ⟨g, k, none⟩ = some (.int .u8 x) := ⟨_, hco⟩
      clear hst hrow hco h
      go_wp2
      go_roundw
      case rel => exact ⟨k + 1, by omega, by go_num, by go_num, HG.out, by simpa [World.setCell] using hs, HR.out⟩
      case measure => simp [intOf]; omega
    · obtain rfl : k = n := by omega
      go_wp2
      go_ret
      refine ⟨rfl, hg, hs, ?_⟩
      rw [← hl] at hrow ⊢
      rw [half_all] at hrow
      exact hrow

set_option maxHeartbeats 1000000 in
theorem heldT (a : Option Addr) (n cap : Nat) (k0 : Int) (w : World) (h : Reads w a n (marks k0 n)) (hn : n ≤ 4194304) (hk0 : 0 ≤ k0) (hk1 : k0 ≤ 4194304) :
    Calls Try.prog 69 #[.slice a n cap, .int .i64 k0] w fun e w' => e = .returned (.int .i64 (k0 + n)) ∧ ∃ m, w' = w.drewN m := by
  obtain ⟨hl, h⟩ := h
  by_cases h0 : n = 0
  · subst h0
    clear h
    go_enter Try.func69, Try.ntmps69
    go_wp2
    refine wp_loop_rounds 1 ?_
    rw [rounds_succ]
    go_wp2
    go_ret
    exact ⟨by simp, 0, rfl⟩
  · rcases h with h | ⟨b, off, rfl, hc⟩
    · exact absurd h h0
    go_enter Try.func69, Try.ntmps69
    go_wp2
    go_loopw [1, 5] (fun v i wr => ∃ k m : Nat, k ≤ n ∧ i = .int .i64 k ∧ v = .int .i64 (k0 + k) ∧ wr = w.drewN m) (fun _ i _ => n - (intOf i).toNat)
    case atStart => exact ⟨0, 0, Nat.zero_le _, rfl, by simp, rfl⟩
    case round =>
      obtain ⟨k, m, hk, rfl, rfl, rfl⟩ := hrel
      by_cases hlt : k < n
      · have c1 : w.cell? ⟨b, off + k, none⟩ = some (.int .u8 ((k0 + (k : Int)) % 256)) := by
          have := hc k hlt
          rw [List.getD_eq_getElem?_getD, marks_get k0 n k hlt] at this; exact this
        clear hc hl
        go_wp2
        go_roundw
        case rel => exact ⟨k + 1, _, by omega, by go_num, by go_num, rfl⟩
        case measure => simp [intOf]; omega
      · obtain rfl : k = n := by omega
        go_wp2
        go_ret
        exact ⟨rfl, m, rfl⟩
end Go.Proofs.Ytccnninmkfhejaa.By

namespace Go.Proofs.Ytccnninmkfhejaa.By
open Go.RowKit
set_option linter.unusedVariables false
set_option linter.unusedSimpArgs false

theorem cell_any {w u : World} {p : Addr} (e : u.heap[p.block]? = w.heap[p.block]?) : u.cell? p = w.cell? p := by
  unfold World.cell?; rw [e]
theorem CLe.hide {u u' : World} {lo lo' : Nat} (hl : lo' ≤ lo) (h : ∀ i, lo ≤ i → i < u.heap.size → u'.heap[i]? = u.heap[i]?) : CLe (hideW u lo) (hideW u' lo') := by
  intro p v hv
  by_cases hp : p.block < lo
  · obtain ⟨b, off, s⟩ := p
    have e : (hideW u lo).heap[b]? = none ∨ (hideW u lo).heap[b]? = some (.map #[] 0) := by
      unfold hideW
      rw [Array.getElem?_mapIdx]
      simp only [if_pos hp]
      cases u.heap[b]? with
      | none => exact .inl rfl
      | some o => exact .inr rfl
    rcases e with e | e <;> simp [World.cell?, e] at hv
  · have e1 := hideW_heap (w := u) (lo := lo) (i := p.block) (by omega)
    have e2 := hideW_heap (w := u') (lo := lo') (i := p.block) (by omega)
    have hs : p.block < u.heap.size := by
      by_cases hs : p.block < u.heap.size
      · exact hs
      · have : u.heap[p.block]? = none := Array.getElem?_eq_none (by omega)
        rw [this] at e1
        simp [World.cell?, e1] at hv
    rw [cell_any (e2.trans ((h p.block (by omega) hs).trans e1.symm))]
    exact hv
theorem CLe.unhide {u : World} {lo : Nat} : CLe (hideW u lo) u := by
  intro p v hv
  have := CLe.hide (u := u) (u' := u) (lo := lo) (lo' := 0) (Nat.zero_le _) (fun _ _ _ => rfl) p v hv
  rw [cell_any (w := u) (hideW_heap (Nat.zero_le _))] at this
  exact this
theorem Row.hid {w : World} {g n lo : Nat} {zs : List Int} (h : Row w g n zs) (hz : Byt zs) (hl : zs.length = n) (hn : n ≤ 1048576) (hg : lo ≤ g) : RdB (hideW w lo) (some ⟨g, 0, none⟩) n zs :=
  ⟨(h.of_block (hideW_heap hg)).reads' hl, hz, by omega⟩
theorem New.hid {w u : World} {t : TypeId} {a : Option Addr} {l c lo : Nat} {f : F} {bs : List Nat} (h : New w u t a l c f bs) (hl : lo ≤ w.heap.size) : SlF (hideW u lo) a l f :=
  (h.1.of (w' := hideW u lo) (fun x hx => hideW_heap (Nat.le_trans hl (h.2.2 x hx)))).reads
/-- A block of k cells. -/
def BlkN (w : World) (t : TypeId) (g k : Nat) : Prop := ∃ cur : Array Value, w.heap[g]? = some (.cells cur t (0, 0)) ∧ cur.size = k
theorem BlkN.lt {w : World} {t : TypeId} {g k : Nat} (h : BlkN w t g k) : g < w.heap.size := by obtain ⟨_, h, _⟩ := h; exact lt_of_block h
theorem BlkN.of {w u : World} {t : TypeId} {g k : Nat} (h : BlkN w t g k) (e : u.heap[g]? = w.heap[g]?) : BlkN u t g k := by obtain ⟨c, h, h2⟩ := h; exact ⟨c, e.trans h, h2⟩
theorem BlkN.has {w : World} {t : TypeId} {g k : Nat} (h : BlkN w t g k) (j : Nat) (hj : j < k) : ∃ v, w.cell? ⟨g, j, none⟩ = some v := by
  obtain ⟨c, h, h2⟩ := h
  rw [cell_of_row w g j c t (0, 0) h]
  exact ⟨c[j]'(by omega), by simp [h2, hj]⟩
theorem BlkN.free {w : World} {t : TypeId} {g k : Nat} (h : BlkN w t g k) (j : Nat) : w.frozen? ⟨g, j, none⟩ = false := by
  obtain ⟨c, h, h2⟩ := h
  exact frozen_of_row w g _ _ t h
theorem BlkN.set {w : World} {t : TypeId} {g k : Nat} (h : BlkN w t g k) (j : Nat) (hj : j < k) (v : Value) : BlkN (w.setCell ⟨g, j, none⟩ v) t g k ∧ w.grownBy (w.setCell ⟨g, j, none⟩ v) (some g) ∧ (w.setCell ⟨g, j, none⟩ v).cell? ⟨g, j, none⟩ = some v ∧ ∀ i, i ≠ j → (w.setCell ⟨g, j, none⟩ v).cell? ⟨g, i, none⟩ = w.cell? ⟨g, i, none⟩ := by
  obtain ⟨c, h, h2⟩ := h
  have hs := heap_setCell_same w g j c t v h
  refine ⟨⟨_, hs, by simpa using h2⟩, grown_setCell _ _ _ _, ?_, fun i hi => ?_⟩
  · rw [cell_of_row _ g j _ t (0, 0) hs]; simp [h2, hj]
  · rw [cell_of_row _ g i _ t (0, 0) hs, cell_of_row w g i _ t (0, 0) h]
    simp [Array.getElem?_setIfInBounds, Ne.symm hi]
theorem hid_grown {w u : World} {lo : Nat} (h : w.grownBy u none) : CLe (hideW w lo) (hideW u lo) := CLe.hide (Nat.le_refl _) (fun i _ h2 => h.block i h2 (by simp))
theorem hid_into {w u : World} {lo p : Nat} (h : w.grownBy u (some p)) (hp : p < lo) : CLe (hideW w lo) (hideW u lo) := CLe.hide (Nat.le_refl _) (fun i h1 h2 => h.block i h2 (by simp; omega))
theorem hid_low {w : World} {lo lo' : Nat} (h : lo' ≤ lo) : CLe (hideW w lo) (hideW w lo') := CLe.hide h (fun _ _ _ => rfl)
end Go.Proofs.Ytccnninmkfhejaa.By
