/-
  Several texts in one (Mk, Put). No statement is proved here.
-/
import Derived.Test.YtjchjdcaampghaaDoorRows
import Derived.Test.YtjchjdcaampghaaDoorBase
import Derived.WalkKit
import Derived.ProofKit
import Derived.WalkSpells
import Derived.RegionTactic
import Derived.Deep.QuietTactic
import Derived.BigQuiet
import Derived.Laws.CopyOwn
namespace Go.Proofs.YtjchjdcaampghaaDoor.By
open Go.RowKit
set_option linter.unusedVariables false

theorem info5 : (Tryd.prog.info? 5).map (fun i => (i.zero, i.size, i.bytes)) = some (some (.int .u8 0), 1, 1) := by kernel_rfl

/-- 'make([]byte, n)'. -/
theorem make_run (n : Nat) (hn : n ≤ 4194304) (w : World) : (Instr.makeSlice 22 (.int .i64 (n : Int)) (.int .i64 (n : Int))).run Tryd.prog w = .ok (.slice (some ⟨w.heap.size, 0, none⟩) n n) (w.alloc (.cells (madeCells #[.int .u8 0] n) 5)) := by
  obtain ⟨i0, hi, hz0, hz1, hz2⟩ := info_parts info5
  have h := run_make (P := Tryd.prog) (w := w) 22 5 i0 (.int .u8 0) Tryd.underlying22 hi hz0 .i64 .i64 (n : Int) (n : Int) (by omega) (by omega) (by rw [hz2]; omega) (by omega)
  rw [hz1] at h
  simpa [Value.cells] using h

theorem make_run0 (w : World) : (Instr.makeSlice 22 (.int .i64 0) (.int .i64 0)).run Tryd.prog w = .ok (.slice (some ⟨w.heap.size, 0, none⟩) 0 0) (w.alloc (.cells (madeCells #[.int .u8 0] 0) 5)) := make_run 0 (by omega) w
end Go.Proofs.YtjchjdcaampghaaDoor.By

namespace Go.Proofs.YtjchjdcaampghaaDoor.By
open Go.RowKit
set_option linter.unusedVariables false

/-- The bytes of a number, in at most f + 1 steps. -/
def putF : Nat → Nat → List Int
  | 0, n => [(n : Int)]
  | f + 1, n => if n ≤ 127 then [(n : Int)] else ((n % 128 + 128 : Nat) : Int) :: putF f (n / 128)
/-- The bytes of a number. -/
def putB (n : Nat) : List Int := putF n n
theorem putF_same : ∀ (f g n : Nat), n ≤ f → n ≤ g → putF f n = putF g n := by
  intro f
  induction f with
  | zero =>
    intro g n hf hg
    obtain rfl : n = 0 := by omega
    cases g with
    | zero => rfl
    | succ g => rw [putF, putF, if_pos (by omega)]
  | succ f ih =>
    intro g n hf hg
    cases g with
    | zero =>
      obtain rfl : n = 0 := by omega
      rw [putF, putF, if_pos (by omega)]
    | succ g =>
      rw [putF, putF]
      by_cases h : n ≤ 127
      · rw [if_pos h, if_pos h]
      · rw [if_neg h, if_neg h, ih g (n / 128) (by omega) (by omega)]
theorem putB_small {n : Nat} (h : n ≤ 127) : putB n = [(n : Int)] := by
  unfold putB
  cases n with
  | zero => rfl
  | succ n => rw [putF, if_pos h]
theorem putB_more {n : Nat} (h : 127 < n) : putB n = ((n % 128 + 128 : Nat) : Int) :: putB (n / 128) := by
  unfold putB
  obtain ⟨k, rfl⟩ : ∃ k, n = k + 1 := ⟨n - 1, by omega⟩
  rw [putF, if_neg (by omega), putF_same k ((k + 1) / 128) ((k + 1) / 128) (by omega) (Nat.le_refl _)]
theorem putB_byt (n : Nat) : Byt (putB n) := by
  induction n using Nat.strongRecOn with
  | ind n ih =>
    by_cases h : n ≤ 127
    · rw [putB_small h]; intro z hz; simp at hz; omega
    · rw [putB_more (by omega)]
      intro z hz
      rcases List.mem_cons.1 hz with rfl | hz
      · omega
      · exact ih (n / 128) (by omega) z hz

theorem vals_one (zs : List Int) : ∀ v ∈ vals zs, v.oneCell' = true := ints_oneCell .u8 zs
theorem vals_get {w : World} {b off n : Nat} {zs : List Int} (hl : zs.length = n) (hc : ∀ i, i < n → w.cell? ⟨b, off + i, none⟩ = some (.int .u8 (zs.getD i 0))) : ∀ j v, (vals zs)[j]? = some v → w.cell? ((⟨b, off, none⟩ : Addr).add j) = some v := by
  intro j v hj
  have hj' : j < n := by
    have := (List.getElem?_eq_some_iff.1 hj).1; simpa [vals, hl] using this
  have h := hc j hj'
  have e : ((⟨b, off, none⟩ : Addr).add j) = ⟨b, off + j, none⟩ := by
    by_cases h0 : j = 0
    · subst h0; simp [Addr.add]
    · simp [Addr.add, h0]
  rw [e, h, ← hj]
  simp [vals, List.getD_eq_getElem?_getD, List.getElem?_eq_getElem (show j < zs.length by omega)]

theorem splice_two (n m : Nat) (zs ys : List Int) (hz : zs.length = n) (hy : ys.length = m) :
    splice (splice (vals (List.replicate (n + m) 0)) 0 (vals zs)) n (vals ys) = vals (zs ++ ys) := by
  have h1 : (vals zs).length = n := by simp [vals, hz]
  have h2 : (vals ys).length = m := by simp [vals, hy]
  have e : splice (vals (List.replicate (n + m) 0)) 0 (vals zs) = vals zs ++ (vals (List.replicate (n + m) 0)).drop n := by simp [splice, h1]
  rw [e]
  unfold splice
  rw [List.take_append_of_le_length (by omega), List.take_of_length_le (by omega), h2, List.drop_append, List.drop_of_length_le (by omega), h1]
  simp [vals]

theorem grown_of_below {w w' : World} (h : Below w.heap.size w w') : w.grownBy w' none := ⟨h.os, h.tape, h.output, h.size, fun k hk _ => h.block k hk⟩
theorem size1 : (Tryd.prog.info? 5).map (·.size) = some 1 := by kernel_rfl

theorem made_is (n : Nat) : madeCells #[.int .u8 0] n = (vals (List.replicate n 0)).toArray := by
  apply Array.ext'; rw [toList_madeCells_one]; simp [vals]
/-- What a slice reads lies there, in every world behind it that left old memory alone. -/
theorem src_of {w w' : World} {a : Option Addr} {n : Nat} {zs : List Int} (h : Reads w a n zs) (hb : Below w.heap.size w w') : 0 < (vals zs).length → ∃ ad, a = some ad ∧ ∀ j v, (vals zs)[j]? = some v → w'.cell? (ad.add j) = some v := by
  intro hp
  obtain ⟨hl, h⟩ := h.below hb
  rcases h with h | ⟨b, off, rfl, hc⟩
  · simp [vals] at hp; omega
  · exact ⟨_, rfl, vals_get hl hc⟩
theorem row_of {w : World} {g n : Nat} {zs : List Int} (h : w.heap[g]? = some (.cells (vals zs).toArray 5 (0, 0))) (hl : zs.length = n) : Row w g n zs :=
  ⟨_, h, by simp [vals, hl], by rw [List.take_of_length_le (by simp [vals])], by omega⟩

set_option maxHeartbeats 1000000 in
theorem joinedT (a a' : Option Addr) (n m cap cap' : Nat) (zs ys : List Int) (w : World) (h : Reads w a n zs) (h' : Reads w a' m ys) (hn : n ≤ 2000000) (hm : m ≤ 2000000) :
    Calls Tryd.prog 40 #[.slice a n cap, .slice a' m cap'] w fun e w' => ∃ g, e = .returned (.slice (some ⟨g, 0, none⟩) (n + m) (n + m)) ∧ w.grownBy w' none ∧ w.heap.size ≤ g ∧ Row w' g (n + m) (zs ++ ys) := by
  have hsz := fun w' (hb : Below w.heap.size w w') => src_of h hb
  have hsy := fun w' (hb : Below w.heap.size w w') => src_of h' hb
  have hl := h.1
  have hl' := h'.1
  clear h h'
  have hmk := make_run (n + m) (by omega)
  have ec : ((n + m : Nat) : Int) = (n : Int) + (m : Int) := by omega
  rw [ec, made_is] at hmk
  have HE : Hid (splice (splice (vals (List.replicate (n + m) 0)) 0 (vals zs)) n (vals ys) = vals (zs ++ ys)) := splice_two n m zs ys hl hl'
  have hzl : (vals zs).length = n := by simp [vals, hl]
  have hyl : (vals ys).length = m := by simp [vals, hl']
  have hol : (vals (List.replicate (n + m) 0)).length = n + m := by simp [vals]
  have hz1 := vals_one zs
  have hy1 := vals_one ys
  have HL : Hid ((zs ++ ys).length = n + m) := by show _ = _; simp [hl, hl']
  generalize hZ : vals zs = Z at *
  generalize hY : vals ys = Y at *
  generalize hO : vals (List.replicate (n + m) 0) = O at *
  have HZ : Hid (n = Z.length) := hzl.symm
  have HY : Hid (m = Y.length) := hyl.symm
  have HO : Hid (O.length = n + m) := hol
  have HZ1 : Hid (∀ v ∈ Z, v.oneCell' = true) := hz1
  have HY1 : Hid (∀ v ∈ Y, v.oneCell' = true) := hy1
  have HSZ : Hid (∀ w', Below w.heap.size w w' → 0 < Z.length → ∃ ad, a = some ad ∧ ∀ j v, Z[j]? = some v → w'.cell? (ad.add j) = some v) := hsz
  have HSY : Hid (∀ w', Below w.heap.size w w' → 0 < Y.length → ∃ ad, a' = some ad ∧ ∀ j v, Y[j]? = some v → w'.cell? (ad.add j) = some v) := hsy
  clear ec hzl hyl hol hz1 hy1 hsz hsy hl hl' hZ hY hO
  have hb0 : Below w.heap.size w (w.alloc (.cells O.toArray 5)) := (Below.refl _ _).alloc (Nat.le_refl _) _
  have HB0 : Hid (Below w.heap.size w (w.alloc (.cells O.toArray 5))) := hb0
  clear hb0
  have c1 : Z.length = Nat.min n (n + m) := by have := HZ.out; rw [← this]; exact (Nat.min_eq_left (by omega)).symm
  have c2 : 0 + Z.length ≤ O.length := by have := HZ.out; have := HO.out; omega
  have C1 : Hid (Z.length = Nat.min n (n + m)) := c1
  have C2 : Hid (0 + Z.length ≤ O.length) := c2
  clear c1 c2
  have D3 : Hid (n + Y.length ≤ (splice O 0 Z).length) := by
    have h1 := length_splice O 0 Z C2.out
    have := HO.out; have := HY.out
    show _ ≤ _
    rw [h1]; omega
  by_cases hm0 : 0 < m
  · go_enter Tryd.func40, Tryd.ntmps40
    go_wp2_with (first
      | (refine wpList_copy_splice rfl (.tmp 12) (.tmp 13) 22 22 rfl 5 Tryd.underlying22 size1 _ _ _ _ _ _ rfl rfl w.heap.size 0 O 5 (heap_alloc_new w _) Z C1.out (fun hp => ⟨rfl, HSZ.out _ HB0.out hp⟩) C2.out HZ1.out w.heap.size w HB0.out (Nat.le_refl _) ?_; intro w2 HG2 hB2)
      | (refine wpList_copy_splice rfl (.tmp 18) (.tmp 19) 22 22 rfl 5 Tryd.underlying22 size1 _ _ _ _ _ _ rfl rfl w.heap.size n (splice O 0 Z) 5 HG2.out Y ?d1 ?d2 D3.out HY1.out w.heap.size w hB2 (Nat.le_refl _) ?d3))
    case d1 => have := HY.out; rw [← this]; first | exact (Nat.min_self _).symm | (simp; omega)
    case d2 => exact HSY.out _ hB2
    case d3 =>
      intro w3 HG3 hB3
      go_wp2
      go_ret
      refine ⟨_, rfl, grown_of_below hB3, Nat.le_refl _, row_of ?_ HL.out⟩
      have := HG3.out; rwa [HE.out] at this
  · go_enter Tryd.func40, Tryd.ntmps40
    go_wp2_with (first
      | (refine wpList_copy_splice rfl (.tmp 12) (.tmp 13) 22 22 rfl 5 Tryd.underlying22 size1 _ _ _ _ _ _ rfl rfl w.heap.size 0 O 5 (heap_alloc_new w _) Z C1.out (fun hp => ⟨rfl, HSZ.out _ HB0.out hp⟩) C2.out HZ1.out w.heap.size w HB0.out (Nat.le_refl _) ?_; intro w2 HG2 hB2)
      | (refine wpList_copy_splice rfl (.tmp 18) (.tmp 19) 22 22 rfl 5 Tryd.underlying22 size1 _ _ _ _ _ _ rfl rfl w.heap.size n (splice O 0 Z) 5 HG2.out Y ?d1 ?d2 D3.out HY1.out w.heap.size w hB2 (Nat.le_refl _) ?d3))
    case d1 => have := HY.out; rw [← this]; first | exact (Nat.min_self _).symm | (simp; omega)
    case d2 => exact fun hp => absurd hp (by have := HY.out; omega)
    case d3 =>
      intro w3 HG3 hB3
      go_wp2
      go_ret
      obtain ⟨k, hk⟩ : ∃ k, k = n + m := ⟨_, rfl⟩
      have hk' : k = n := by omega
      rw [← hk]
      refine ⟨w.heap.size, by rw [hk']; rfl, grown_of_below hB3, Nat.le_refl _, row_of ?_ (HL.out.trans hk.symm)⟩
      have := HG3.out; rwa [HE.out] at this
end Go.Proofs.YtjchjdcaampghaaDoor.By
