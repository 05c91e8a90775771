/-
  Contracts of the drawing functions for bytes. No statement is proved here.
-/
import Derived.Test.YtpmndefmibnaeaaDoorDrawN
import Derived.Test.YtpmndefmibnaeaaDoorMk
import Derived.Laws.CopyOwn
namespace Go.Proofs.YtpmndefmibnaeaaDoor.By
open Go.RowKit
set_option linter.unusedVariables false

/-- v is nil or a slice at the head of a row of our own, from block B on, and reads ys. -/
theorem own_ltB {w : World} {B n : Nat} {v : Value} {xs : List Value} (h : w.ownsRow B 5 1 v n xs) : ∀ k, v.ownBlock = some k → B ≤ k := fun k hk => (h.lt k hk).1
theorem own_stepB {w : World} {B n : Nat} {v : Value} {zs : List Int} {x : Int} (h : w.ownsRow B 5 1 v (n + 1) (vals zs ++ [.int .u8 x])) : w.ownsRow B 5 1 v (n + 1) (vals (zs ++ [x])) := by
  have e : vals zs ++ [.int .u8 x] = vals (zs ++ [x]) := by simp [vals]
  rwa [e] at h
def MineB (w : World) (B : Nat) (v : Value) (ys : List Int) : Prop := w.ownsRow B 5 1 v ys.length (vals ys) ∧ Byt ys
theorem MineB.mono {w : World} {B B' : Nat} {v : Value} {ys : List Int} (h : MineB w B v ys) (hB : B' ≤ B) : MineB w B' v ys := by
  obtain ⟨⟨h1, h2⟩, hb⟩ := h
  refine ⟨⟨h1, ?_⟩, hb⟩
  rcases h2 with h2 | ⟨g, cap, cur, e, hb', r⟩
  · exact .inl h2
  · exact .inr ⟨g, cap, cur, e, Nat.le_trans hB hb', r⟩
theorem MineB.kept {w w' : World} {B : Nat} {v : Value} {ys : List Int} {row : Option Nat} (h : MineB w B v ys) (hg : w.grownBy w' row) (hne : ∀ k, row = some k → k < B) : MineB w' B v ys := by
  refine ⟨h.1.kept hg ?_, h.2⟩
  cases hv : v.ownBlock with
  | none => exact .inl rfl
  | some k =>
    right
    intro e
    have := hne k e.symm
    have := (h.1.lt k hv).1
    omega
/-- Writes to rows of our own, and to row. -/
theorem grown_moreB {w w1 w2 : World} {row r2 : Option Nat} (h : w.grownBy w1 row) (hg : w1.grownBy w2 r2) (hr : ∀ k, r2 = some k → w.heap.size ≤ k) : w.grownBy w2 row :=
  ⟨hg.os.trans h.os, hg.tape.trans h.tape, hg.output.trans h.output, Nat.le_trans h.size hg.size, fun k hk hne => (hg.block k (Nat.lt_of_lt_of_le hk h.size) (fun e => by have := hr k e.symm; omega)).trans (h.block k hk hne)⟩
theorem Cur.lt {w0 w : World} {g n cap : Nat} {a : Option Addr} (h : Cur w0 w g a n cap) : g < w.heap.size := by obtain ⟨_, _, i, x, hb, _⟩ := h; exact lt_of_block hb
theorem Cur.more {w0 w w' : World} {g n cap B : Nat} {a : Option Addr} {row : Option Nat} (h : Cur w0 w g a n cap) (hg : w.grownBy w' row) (hB : g < B) (hr : ∀ k, row = some k → B ≤ k) : Cur w0 w' g a n cap := by
  refine h.kept hg ?_ ?_
  · intro e; have := hr g e.symm; omega
  · intro k hk; have := hr k hk; have := h.1; omega
theorem byt_snoc {ys : List Int} {x : Int} (h : Byt ys) (h0 : 0 ≤ x) (h1 : x ≤ 255) : Byt (ys ++ [x]) := by
  intro z hz
  rcases List.mem_append.1 hz with hz | hz
  · exact h z hz
  · simp at hz; subst hz; exact ⟨h0, h1⟩

set_option maxHeartbeats 2000000 in
theorem someT (w0 w : World) (g : Nat) (a : Option Addr) (n cap : Nat) (zs : List Int) (hr : Reads w0 a n zs) (hz : Byt zs) (hn : n ≤ 9223372036854775807) (hc : Cur w0 w g a n cap) (m : Int) (hm : 0 ≤ m) (hm1 : m ≤ 100) :
    Calls Tryd.prog 38 #[.pointer (some ⟨g, 0, none⟩), .int .i64 m] w fun e w' => ∃ v ys, e = .returned v ∧ (ys.length : Int) ≤ m ∧ MineB w' w.heap.size v ys ∧ Kept w0 w w' g a n cap := by
  obtain ⟨i0, hi, hz0, hz1, hz2⟩ := info_parts info5
  have hB := belowT w0 w g a n cap zs hr hz hn hc (m + 1) (by omega) (by omega)
  have hY := fun w hc => byteT w0 w g a n cap zs hr hz hn hc
  have HY : Hid (∀ w, Cur w0 w g a n cap → Calls Tryd.prog 35 #[.pointer (some ⟨g, 0, none⟩)] w fun e w' => ∃ x, e = .returned (.int .i64 x) ∧ 0 ≤ x ∧ x ≤ 255 ∧ Cur w0 w' g a n cap ∧ w.grownBy w' (some g)) := hY
  have hgw := hc.lt
  clear hY hr hz
  go_enter Tryd.func38, Tryd.ntmps38
  go_wp2_with fail
  refine hB.mono ?_
  rintro e w1 ⟨x, rfl, hx0, hx1, hk⟩
  clear hB
  go_wp2_with fail
  go_loopw [6, 7] (fun o i wr => ∃ (ys : List Int), (ys.length : Int) ≤ x ∧ i = .int .i64 (ys.length : Int) ∧ Hid (MineB wr w.heap.size o ys) ∧ Hid (Kept w0 w wr g a n cap)) (fun _ i _ => x.toNat - (intOf i).toNat)
  case atStart => exact ⟨[], by simp; omega, rfl, ⟨World.ownsRow_nil _ _ _ _, fun z hz => by simp at hz⟩, hk⟩
  case round =>
    obtain ⟨ys, hl, rfl, HM, HK⟩ := hrel
    generalize hk' : ys.length = k at *
    have HKL : Hid (ys.length = k) := hk'
    clear hk' hk
    by_cases hlt : (k : Int) < x
    · go_wp2_with fail
      refine (HY.out wr HK.out.1).mono ?_
      rintro e w2 ⟨b, rfl, hb0, hb1, hc2, hg2⟩
      have hs2 : w.heap.size ≤ w2.heap.size := Nat.le_trans HK.out.2.size hg2.size
      have HM2 : Hid (MineB w2 w.heap.size u6 ys) := HM.out.kept hg2 (by intro k hk; cases hk; exact hgw)
      have HG2 : Hid (w.grownBy w2 (some g)) := grown_trans HK.out.2 hg2
      have HC2 : Hid (Cur w0 w2 g a n cap) := hc2
      have HO2 : Hid (w2.ownsRow w.heap.size 5 1 u6 k (vals ys)) := by have := HM2.out.1; rwa [HKL.out] at this
      have E1 : Hid (k + 1 ≤ maxLen) := by show _ ≤ _; unfold maxLen; omega
      have E2 : Hid ((k + 1) * 1 ≤ 140737488355328) := by show _ ≤ _; omega
      have E3 : ∀ o, Hid (w.heap.size ≤ (w2.alloc o).heap.size) := by intro o; show _ ≤ _; simp; omega
      clear hc2 hg2 hc
      go_wp2_with (at_builtin; go_must (refine wpList_append_own _ rfl (.tmp 17) (.tmp 21) 22 rfl w.heap.size 5 i0 (.int .u8 0) 1 1 Tryd.underlying22 hi hz0 hz1 hz2 rfl (by decide) u6 k (vals ys) rfl (HO2.out.alloc _) ⟨w2.heap.size, 0, none⟩ 1 1 [.int .u8 b] rfl rfl (cell_one_new _ _ _) (by simp [Value.oneCell']) E1.out E2.out (E3 _).out ?_); intro v3 w3 hown3 hgrow3 hnil3)
      have hOB := own_ltB HO2.out
      have M3 : Hid (MineB w3 w.heap.size v3 (ys ++ [b])) := by
        refine ⟨?_, byt_snoc HM2.out.2 hb0 hb1⟩
        have e := own_stepB hown3
        have e2 : (ys ++ [b]).length = k + 1 := by rw [List.length_append, HKL.out]; rfl
        rw [e2]; exact e
      have K3 : Hid (Kept w0 w w3 g a n cap) := by
        have hga := World.grownBy_alloc w2 (.cells #[.int .u8 b] 5) none
        exact ⟨(HC2.out.none hga).more hgrow3 hgw hOB, grown_moreB (grown_moreB HG2.out hga (by simp)) hgrow3 hOB⟩
      clear hown3 hgrow3 hnil3 hOB
      go_roundw
      case rel => exact ⟨ys ++ [b], by rw [List.length_append, HKL.out]; simp; omega, by rw [List.length_append, HKL.out]; go_num, M3, K3⟩
      case measure => simp [intOf]; omega
    · go_wp2
      go_ret
      exact ⟨_, rfl, ys, by rw [HKL.out]; omega, HM.out, HK.out⟩
end Go.Proofs.YtpmndefmibnaeaaDoor.By
