/-
  Several texts in one (Put, PutI, PutJ, PutS). No statement is proved here.
-/
import Derived.Test.YtpdkgmagjhibkaaGreatDoorEC0Also
import Derived.Laws.CopyOwn
namespace Go.Proofs.YtpdkgmagjhibkaaGreatDoor.By
open Go.RowKit
set_option linter.unusedVariables false

/-- The bytes of a number, in at most f + 1 steps. -/
def putF : Nat → Nat → List Int
  | 0, n => [(n : Int)]
  | f + 1, n => if n ≤ 127 then [(n : Int)] else ((n % 128 + 128 : Nat) : Int) :: putF f (n / 128)
/-- The bytes of a number. -/
def putB (n : Nat) : List Int := putF n n
theorem putF_same : ∀ (f g n : Nat), n ≤ f → n ≤ g → putF f n = putF g n := by
  intro f
  induction f with
  | zero =>
    intro g n hf hg
    obtain rfl : n = 0 := by omega
    cases g with
    | zero => rfl
    | succ g => rw [putF, putF, if_pos (by omega)]
  | succ f ih =>
    intro g n hf hg
    cases g with
    | zero =>
      obtain rfl : n = 0 := by omega
      rw [putF, putF, if_pos (by omega)]
    | succ g =>
      rw [putF, putF]
      by_cases h : n ≤ 127
      · rw [if_pos h, if_pos h]
      · rw [if_neg h, if_neg h, ih g (n / 128) (by omega) (by omega)]
theorem putB_small {n : Nat} (h : n ≤ 127) : putB n = [(n : Int)] := by
  unfold putB
  cases n with
  | zero => rfl
  | succ n => rw [putF, if_pos h]
theorem putB_more {n : Nat} (h : 127 < n) : putB n = ((n % 128 + 128 : Nat) : Int) :: putB (n / 128) := by
  unfold putB
  obtain ⟨k, rfl⟩ : ∃ k, n = k + 1 := ⟨n - 1, by omega⟩
  rw [putF, if_neg (by omega), putF_same k ((k + 1) / 128) ((k + 1) / 128) (by omega) (Nat.le_refl _)]
theorem putB_byt (n : Nat) : Byt (putB n) := by
  induction n using Nat.strongRecOn with
  | ind n ih =>
    by_cases h : n ≤ 127
    · rw [putB_small h]; intro z hz; simp at hz; omega
    · rw [putB_more (by omega)]
      intro z hz
      rcases List.mem_cons.1 hz with rfl | hz
      · omega
      · exact ih (n / 128) (by omega) z hz

theorem vals_one (zs : List Int) : ∀ v ∈ vals zs, v.oneCell' = true := ints_oneCell .u8 zs
theorem vals_get {w : World} {b off n : Nat} {zs : List Int} (hl : zs.length = n) (hc : ∀ i, i < n → w.cell? ⟨b, off + i, none⟩ = some (.int .u8 (zs.getD i 0))) : ∀ j v, (vals zs)[j]? = some v → w.cell? ((⟨b, off, none⟩ : Addr).add j) = some v := by
  intro j v hj
  have hj' : j < n := by
    have := (List.getElem?_eq_some_iff.1 hj).1; simpa [vals, hl] using this
  have h := hc j hj'
  have e : ((⟨b, off, none⟩ : Addr).add j) = ⟨b, off + j, none⟩ := by
    by_cases h0 : j = 0
    · subst h0; simp [Addr.add]
    · simp [Addr.add, h0]
  rw [e, h, ← hj]
  simp [vals, List.getD_eq_getElem?_getD, List.getElem?_eq_getElem (show j < zs.length by omega)]

theorem splice_two (n m : Nat) (zs ys : List Int) (hz : zs.length = n) (hy : ys.length = m) :
    splice (splice (vals (List.replicate (n + m) 0)) 0 (vals zs)) n (vals ys) = vals (zs ++ ys) := by
  have h1 : (vals zs).length = n := by simp [vals, hz]
  have h2 : (vals ys).length = m := by simp [vals, hy]
  have e : splice (vals (List.replicate (n + m) 0)) 0 (vals zs) = vals zs ++ (vals (List.replicate (n + m) 0)).drop n := by simp [splice, h1]
  rw [e]
  unfold splice
  rw [List.take_append_of_le_length (by omega), List.take_of_length_le (by omega), h2, List.drop_append, List.drop_of_length_le (by omega), h1]
  simp [vals]

theorem grown_of_below {w w' : World} (h : Below w.heap.size w w') : w.grownBy w' none := ⟨h.os, h.tape, h.output, h.size, fun k hk _ => h.block k hk⟩
theorem size1 : (Tryz.prog.info? 5).map (·.size) = some 1 := by kernel_rfl

theorem made_is (n : Nat) : madeCells #[.int .u8 0] n = (vals (List.replicate n 0)).toArray := by
  apply Array.ext'; rw [toList_madeCells_one]; simp [vals]
/-- What a slice reads lies there, in every world behind it that left old memory alone. -/
theorem src_of {w w' : World} {a : Option Addr} {n : Nat} {zs : List Int} (h : Reads w a n zs) (hb : Below w.heap.size w w') : 0 < (vals zs).length → ∃ ad, a = some ad ∧ ∀ j v, (vals zs)[j]? = some v → w'.cell? (ad.add j) = some v := by
  intro hp
  obtain ⟨hl, h⟩ := h.below hb
  rcases h with h | ⟨b, off, rfl, hc⟩
  · simp [vals] at hp; omega
  · exact ⟨_, rfl, vals_get hl hc⟩
theorem row_of {w : World} {g n : Nat} {zs : List Int} (h : w.heap[g]? = some (.cells (vals zs).toArray 5 (0, 0))) (hl : zs.length = n) : Row w g n zs :=
  ⟨_, h, by simp [vals, hl], by rw [List.take_of_length_le (by simp [vals])], by omega⟩

set_option maxHeartbeats 1000000 in
theorem joinedT (a a' : Option Addr) (n m cap cap' : Nat) (zs ys : List Int) (w : World) (h : Reads w a n zs) (h' : Reads w a' m ys) (hn : n ≤ 2000000) (hm : m ≤ 2000000) :
    Calls Tryz.prog 111 #[.slice a n cap, .slice a' m cap'] w fun e w' => ∃ g, e = .returned (.slice (some ⟨g, 0, none⟩) (n + m) (n + m)) ∧ w.grownBy w' none ∧ w.heap.size ≤ g ∧ Row w' g (n + m) (zs ++ ys) := by
  have hsz := fun w' (hb : Below w.heap.size w w') => src_of h hb
  have hsy := fun w' (hb : Below w.heap.size w w') => src_of h' hb
  have hl := h.1
  have hl' := h'.1
  clear h h'
  have hmk := make_run (n + m) (by omega)
  have ec : ((n + m : Nat) : Int) = (n : Int) + (m : Int) := by omega
  rw [ec, made_is] at hmk
  have HE : Hid (splice (splice (vals (List.replicate (n + m) 0)) 0 (vals zs)) n (vals ys) = vals (zs ++ ys)) := splice_two n m zs ys hl hl'
  have hzl : (vals zs).length = n := by simp [vals, hl]
  have hyl : (vals ys).length = m := by simp [vals, hl']
  have hol : (vals (List.replicate (n + m) 0)).length = n + m := by simp [vals]
  have hz1 := vals_one zs
  have hy1 := vals_one ys
  have HL : Hid ((zs ++ ys).length = n + m) := by show _ = _; simp [hl, hl']
  generalize hZ : vals zs = Z at *
  generalize hY : vals ys = Y at *
  generalize hO : vals (List.replicate (n + m) 0) = O at *
  have HZ : Hid (n = Z.length) := hzl.symm
  have HY : Hid (m = Y.length) := hyl.symm
  have HO : Hid (O.length = n + m) := hol
  have HZ1 : Hid (∀ v ∈ Z, v.oneCell' = true) := hz1
  have HY1 : Hid (∀ v ∈ Y, v.oneCell' = true) := hy1
  have HSZ : Hid (∀ w', Below w.heap.size w w' → 0 < Z.length → ∃ ad, a = some ad ∧ ∀ j v, Z[j]? = some v → w'.cell? (ad.add j) = some v) := hsz
  have HSY : Hid (∀ w', Below w.heap.size w w' → 0 < Y.length → ∃ ad, a' = some ad ∧ ∀ j v, Y[j]? = some v → w'.cell? (ad.add j) = some v) := hsy
  clear ec hzl hyl hol hz1 hy1 hsz hsy hl hl' hZ hY hO
  have hb0 : Below w.heap.size w (w.alloc (.cells O.toArray 5)) := (Below.refl _ _).alloc (Nat.le_refl _) _
  have HB0 : Hid (Below w.heap.size w (w.alloc (.cells O.toArray 5))) := hb0
  clear hb0
  have c1 : Z.length = Nat.min n (n + m) := by have := HZ.out; rw [← this]; exact (Nat.min_eq_left (by omega)).symm
  have c2 : 0 + Z.length ≤ O.length := by have := HZ.out; have := HO.out; omega
  have C1 : Hid (Z.length = Nat.min n (n + m)) := c1
  have C2 : Hid (0 + Z.length ≤ O.length) := c2
  clear c1 c2
  have D3 : Hid (n + Y.length ≤ (splice O 0 Z).length) := by
    have h1 := length_splice O 0 Z C2.out
    have := HO.out; have := HY.out
    show _ ≤ _
    rw [h1]; omega
  by_cases hm0 : 0 < m
  · go_enter Tryz.func111, Tryz.ntmps111
    go_wp2_with (first
      | (refine wpList_copy_splice rfl (.tmp 12) (.tmp 13) 36 36 rfl 5 Tryz.underlying36 size1 _ _ _ _ _ _ rfl rfl w.heap.size 0 O 5 (heap_alloc_new w _) Z C1.out (fun hp => ⟨rfl, HSZ.out _ HB0.out hp⟩) C2.out HZ1.out w.heap.size w HB0.out (Nat.le_refl _) ?_; intro w2 HG2 hB2)
      | (refine wpList_copy_splice rfl (.tmp 18) (.tmp 19) 36 36 rfl 5 Tryz.underlying36 size1 _ _ _ _ _ _ rfl rfl w.heap.size n (splice O 0 Z) 5 HG2.out Y ?d1 ?d2 D3.out HY1.out w.heap.size w hB2 (Nat.le_refl _) ?d3))
    case d1 => have := HY.out; rw [← this]; first | exact (Nat.min_self _).symm | (simp; omega)
    case d2 => exact HSY.out _ hB2
    case d3 =>
      intro w3 HG3 hB3
      go_wp2
      go_ret
      refine ⟨_, rfl, grown_of_below hB3, Nat.le_refl _, row_of ?_ HL.out⟩
      have := HG3.out; rwa [HE.out] at this
  · go_enter Tryz.func111, Tryz.ntmps111
    go_wp2_with (first
      | (refine wpList_copy_splice rfl (.tmp 12) (.tmp 13) 36 36 rfl 5 Tryz.underlying36 size1 _ _ _ _ _ _ rfl rfl w.heap.size 0 O 5 (heap_alloc_new w _) Z C1.out (fun hp => ⟨rfl, HSZ.out _ HB0.out hp⟩) C2.out HZ1.out w.heap.size w HB0.out (Nat.le_refl _) ?_; intro w2 HG2 hB2)
      | (refine wpList_copy_splice rfl (.tmp 18) (.tmp 19) 36 36 rfl 5 Tryz.underlying36 size1 _ _ _ _ _ _ rfl rfl w.heap.size n (splice O 0 Z) 5 HG2.out Y ?d1 ?d2 D3.out HY1.out w.heap.size w hB2 (Nat.le_refl _) ?d3))
    case d1 => have := HY.out; rw [← this]; first | exact (Nat.min_self _).symm | (simp; omega)
    case d2 => exact fun hp => absurd hp (by have := HY.out; omega)
    case d3 =>
      intro w3 HG3 hB3
      go_wp2
      go_ret
      obtain ⟨k, hk⟩ : ∃ k, k = n + m := ⟨_, rfl⟩
      have hk' : k = n := by omega
      rw [← hk]
      refine ⟨w.heap.size, by rw [hk']; rfl, grown_of_below hB3, Nat.le_refl _, row_of ?_ (HL.out.trans hk.symm)⟩
      have := HG3.out; rwa [HE.out] at this
end Go.Proofs.YtpdkgmagjhibkaaGreatDoor.By

namespace Go.Proofs.YtpdkgmagjhibkaaGreatDoor.By
open Go.RowKit
set_option linter.unusedVariables false

set_option maxHeartbeats 2000000 in
theorem parts1 (n : Int) (w : World) (h0 : 0 ≤ n) (h1 : n < 128) :
    Calls Tryz.prog 112 #[.int .i64 n] w fun e w' => e = .returned (.tuple #[.agg #[.int .u8 n, .int .u8 0, .int .u8 0, .int .u8 0, .int .u8 0], .int .i64 1]) ∧ w.grownBy w' none := by
  go_enter Tryz.func112, Tryz.ntmps112
  go_wp2
  refine wp_loop_rounds 1 ?_
  rw [rounds_succ]
  go_wp2
  exact bodyPost_ret (v := .tuple #[.agg #[.int .u8 n, .int .u8 0, .int .u8 0, .int .u8 0, .int .u8 0], .int .i64 1]) (by simp [results, Tryz.results112, go_sem]) rfl ⟨rfl, grown_trans (World.grownBy_alloc _ _ _) (World.grownBy_alloc _ _ _)⟩
set_option maxHeartbeats 2000000 in
theorem parts2 (n : Int) (w : World) (h0 : 128 ≤ n) (h1 : n < 16384) :
    Calls Tryz.prog 112 #[.int .i64 n] w fun e w' => e = .returned (.tuple #[.agg #[.int .u8 (n % 128 + 128), .int .u8 (n / 128), .int .u8 0, .int .u8 0, .int .u8 0], .int .i64 2]) ∧ w.grownBy w' none := by
  go_enter Tryz.func112, Tryz.ntmps112
  go_wp2
  refine wp_loop_rounds 2 ?_
  rw [rounds_succ]
  go_wp2
  rw [rounds_succ]
  go_wp2
  exact bodyPost_ret (v := .tuple #[.agg #[.int .u8 (n % 128 + 128), .int .u8 (n / 128), .int .u8 0, .int .u8 0, .int .u8 0], .int .i64 2]) (by simp [results, Tryz.results112, go_sem]) rfl ⟨rfl, grown_trans (World.grownBy_alloc _ _ _) (World.grownBy_alloc _ _ _)⟩
set_option maxHeartbeats 2000000 in
theorem parts3 (n : Int) (w : World) (h0 : 16384 ≤ n) (h1 : n < 2097152) :
    Calls Tryz.prog 112 #[.int .i64 n] w fun e w' => e = .returned (.tuple #[.agg #[.int .u8 (n % 128 + 128), .int .u8 (n / 128 % 128 + 128), .int .u8 (n / 128 / 128), .int .u8 0, .int .u8 0], .int .i64 3]) ∧ w.grownBy w' none := by
  go_enter Tryz.func112, Tryz.ntmps112
  go_wp2
  refine wp_loop_rounds 3 ?_
  rw [rounds_succ]
  go_wp2
  rw [rounds_succ]
  go_wp2
  rw [rounds_succ]
  go_wp2
  exact bodyPost_ret (v := .tuple #[.agg #[.int .u8 (n % 128 + 128), .int .u8 (n / 128 % 128 + 128), .int .u8 (n / 128 / 128), .int .u8 0, .int .u8 0], .int .i64 3]) (by simp [results, Tryz.results112, go_sem]) rfl ⟨rfl, grown_trans (World.grownBy_alloc _ _ _) (World.grownBy_alloc _ _ _)⟩
set_option maxHeartbeats 2000000 in
theorem parts4 (n : Int) (w : World) (h0 : 2097152 ≤ n) (h1 : n < 268435456) :
    Calls Tryz.prog 112 #[.int .i64 n] w fun e w' => e = .returned (.tuple #[.agg #[.int .u8 (n % 128 + 128), .int .u8 (n / 128 % 128 + 128), .int .u8 (n / 128 / 128 % 128 + 128), .int .u8 (n / 128 / 128 / 128), .int .u8 0], .int .i64 4]) ∧ w.grownBy w' none := by
  go_enter Tryz.func112, Tryz.ntmps112
  go_wp2
  refine wp_loop_rounds 4 ?_
  rw [rounds_succ]
  go_wp2
  rw [rounds_succ]
  go_wp2
  rw [rounds_succ]
  go_wp2
  rw [rounds_succ]
  go_wp2
  exact bodyPost_ret (v := .tuple #[.agg #[.int .u8 (n % 128 + 128), .int .u8 (n / 128 % 128 + 128), .int .u8 (n / 128 / 128 % 128 + 128), .int .u8 (n / 128 / 128 / 128), .int .u8 0], .int .i64 4]) (by simp [results, Tryz.results112, go_sem]) rfl ⟨rfl, grown_trans (World.grownBy_alloc _ _ _) (World.grownBy_alloc _ _ _)⟩
set_option maxHeartbeats 2000000 in
theorem parts5 (n : Int) (w : World) (h0 : 268435456 ≤ n) (h1 : n ≤ 2147483647) :
    Calls Tryz.prog 112 #[.int .i64 n] w fun e w' => e = .returned (.tuple #[.agg #[.int .u8 (n % 128 + 128), .int .u8 (n / 128 % 128 + 128), .int .u8 (n / 128 / 128 % 128 + 128), .int .u8 (n / 128 / 128 / 128 % 128 + 128), .int .u8 (n / 128 / 128 / 128 / 128)], .int .i64 5]) ∧ w.grownBy w' none := by
  go_enter Tryz.func112, Tryz.ntmps112
  go_wp2
  refine wp_loop_rounds 5 ?_
  rw [rounds_succ]
  go_wp2
  rw [rounds_succ]
  go_wp2
  rw [rounds_succ]
  go_wp2
  rw [rounds_succ]
  go_wp2
  rw [rounds_succ]
  go_wp2
  exact bodyPost_ret (v := .tuple #[.agg #[.int .u8 (n % 128 + 128), .int .u8 (n / 128 % 128 + 128), .int .u8 (n / 128 / 128 % 128 + 128), .int .u8 (n / 128 / 128 / 128 % 128 + 128), .int .u8 (n / 128 / 128 / 128 / 128)], .int .i64 5]) (by simp [results, Tryz.results112, go_sem]) rfl ⟨rfl, grown_trans (World.grownBy_alloc _ _ _) (World.grownBy_alloc _ _ _)⟩

/-- The bytes that stand behind the others; none, where the number is out of range. -/
def numB (N : Int) : List Int := if N < 0 ∨ 2147483647 < N then [] else putB N.toNat
theorem numB_out {N : Int} (h : N < 0 ∨ 2147483647 < N) : numB N = [] := by rw [numB, if_pos h]
theorem numB_in {N : Int} (h0 : 0 ≤ N) (h1 : N ≤ 2147483647) : numB N = putB N.toNat := by rw [numB, if_neg (by omega)]
theorem numB_byt (N : Int) : Byt (numB N) := by
  unfold numB; split
  · intro z hz; simp at hz
  · exact putB_byt _
theorem putI {n : Int} (h0 : 0 ≤ n) (h1 : n < 128) : putB n.toNat = [n] := by
  rw [putB_small (by omega), Int.toNat_of_nonneg h0]
theorem putI_more {n : Int} (h0 : 128 ≤ n) : putB n.toNat = (n % 128 + 128) :: putB (n / 128).toNat := by
  rw [putB_more (by omega)]
  have e1 : ((n.toNat % 128 + 128 : Nat) : Int) = n % 128 + 128 := by omega
  have e2 : n.toNat / 128 = (n / 128).toNat := by omega
  rw [e1, e2]
/-- The five cells, of which the first c are the number's bytes. -/
theorem partsT (n : Int) (w : World) (h0 : 0 ≤ n) (h1 : n ≤ 2147483647) :
    Calls Tryz.prog 112 #[.int .i64 n] w fun e w' => ∃ (p0 p1 p2 p3 p4 : Int) (c : Nat), e = .returned (.tuple #[.agg #[.int .u8 p0, .int .u8 p1, .int .u8 p2, .int .u8 p3, .int .u8 p4], .int .i64 c]) ∧ [p0, p1, p2, p3, p4].take c = numB n ∧ 1 ≤ c ∧ c ≤ 5 ∧ w.grownBy w' none := by
  rw [numB_in h0 h1]
  rcases (show n < 128 ∨ (128 ≤ n ∧ n < 16384) ∨ (16384 ≤ n ∧ n < 2097152) ∨ (2097152 ≤ n ∧ n < 268435456) ∨ 268435456 ≤ n by omega) with h | ⟨h, h'⟩ | ⟨h, h'⟩ | ⟨h, h'⟩ | h
  · exact (parts1 n w h0 h).mono fun e w' ⟨he, hg⟩ => ⟨_, _, _, _, _, 1, he, by rw [putI h0 h]; rfl, by omega, by omega, hg⟩
  · exact (parts2 n w h h').mono fun e w' ⟨he, hg⟩ => ⟨_, _, _, _, _, 2, he, by rw [putI_more h, putI (by omega) (by omega)]; rfl, by omega, by omega, hg⟩
  · exact (parts3 n w h h').mono fun e w' ⟨he, hg⟩ => ⟨_, _, _, _, _, 3, he, by rw [putI_more (by omega), putI_more (by omega), putI (by omega) (by omega)]; rfl, by omega, by omega, hg⟩
  · exact (parts4 n w h h').mono fun e w' ⟨he, hg⟩ => ⟨_, _, _, _, _, 4, he, by rw [putI_more (by omega), putI_more (by omega), putI_more (by omega), putI (by omega) (by omega)]; rfl, by omega, by omega, hg⟩
  · exact (parts5 n w h h1).mono fun e w' ⟨he, hg⟩ => ⟨_, _, _, _, _, 5, he, by rw [putI_more (by omega), putI_more (by omega), putI_more (by omega), putI_more (by omega), putI (by omega) (by omega)]; rfl, by omega, by omega, hg⟩

theorem reads_parts (w : World) (p0 p1 p2 p3 p4 : Int) (c : Nat) (t : TypeId) (l : List Int) (hc : c ≤ 5) (h : [p0, p1, p2, p3, p4].take c = l) :
    Reads (w.alloc (.cells #[.int .u8 p0, .int .u8 p1, .int .u8 p2, .int .u8 p3, .int .u8 p4] t)) (some ⟨w.heap.size, 0, none⟩) c l := by
  subst h
  refine ⟨by simp; omega, .inr ⟨_, 0, rfl, fun i hi => ?_⟩⟩
  rw [List.getD_eq_getElem?_getD, List.getElem?_take_of_lt hi]
  have hh := heap_alloc_new w (.cells #[.int .u8 p0, .int .u8 p1, .int .u8 p2, .int .u8 p3, .int .u8 p4] t)
  rw [Nat.zero_add, cell_of_row _ _ i _ t (0, 0) hh]
  rcases (show i = 0 ∨ i = 1 ∨ i = 2 ∨ i = 3 ∨ i = 4 by omega) with rfl | rfl | rfl | rfl | rfl <;> rfl
end Go.Proofs.YtpdkgmagjhibkaaGreatDoor.By

namespace Go.Proofs.YtpdkgmagjhibkaaGreatDoor.By
open Go.RowKit
set_option linter.unusedVariables false

theorem reads_nil (w : World) : Reads w none 0 [] := ⟨rfl, .inl rfl⟩

set_option maxHeartbeats 2000000 in
theorem implPut (a : Option Addr) (n cap : Nat) (zs : List Int) (N : Int) (w : World) (h : Reads w a n zs) (hn : n ≤ 1500000) :
    Calls Tryz.prog 90 #[.slice a n cap, .int .i64 N] w fun e w' => ∃ g, e = .returned (.slice (some ⟨g, 0, none⟩) (n + (numB N).length) (n + (numB N).length)) ∧ w.grownBy w' none ∧ w.heap.size ≤ g ∧ Row w' g (n + (numB N).length) (zs ++ numB N) := by
  by_cases hN : 0 ≤ N ∧ N ≤ 2147483647
  · obtain ⟨h0, h1⟩ := hN
    have hP := partsT N w h0 h1
    obtain ⟨L, hL⟩ : ∃ L, L = numB N := ⟨_, rfl⟩
    rw [← hL] at hP ⊢
    clear hL
    go_enter Tryz.func90, Tryz.ntmps90
    go_wp2_with fail
    refine hP.mono ?_
    rintro e w1 ⟨p0, p1, p2, p3, p4, c, rfl, hL, hc1, hc5, hg1⟩
    have hLl : L.length = c := by rw [← hL]; simp; omega
    have HL : Hid ([p0, p1, p2, p3, p4].take c = L) := hL
    have HLl : Hid (L.length = c) := hLl
    clear hP hL hLl
    have hA := (World.grownBy_alloc w1 (.cells #[.int .u8 p0, .int .u8 p1, .int .u8 p2, .int .u8 p3, .int .u8 p4] 153) none)
    have HR : Hid (Reads (w1.alloc (.cells #[.int .u8 p0, .int .u8 p1, .int .u8 p2, .int .u8 p3, .int .u8 p4] 153)) a n zs) := (h.none hg1).none hA
    have HG : Hid (w.grownBy (w1.alloc (.cells #[.int .u8 p0, .int .u8 p1, .int .u8 p2, .int .u8 p3, .int .u8 p4] 153)) none) := grown_trans hg1 hA
    clear hA hg1 h
    have hc5' : (c : Int) ≤ 5 := by omega
    go_wp2_with fail
    refine (joinedT a (some ⟨w1.heap.size, 0, none⟩) n c cap 5 zs L _ HR.out (reads_parts w1 p0 p1 p2 p3 p4 c 153 L hc5 HL.out) (by omega) (by omega)).mono ?_
    rintro e w2 ⟨g, rfl, hg2, hlt2, hrow2⟩
    have HG2 : Hid (w.grownBy w2 none) := grown_trans HG.out hg2
    have hlt : w.heap.size ≤ g := Nat.le_trans HG.out.size hlt2
    clear hg2 hlt2 HR HG
    go_wp2
    go_ret
    rw [HLl.out]
    exact ⟨g, rfl, HG2.out, hlt, hrow2⟩
  · have e0 := numB_out (show N < 0 ∨ 2147483647 < N by omega)
    have hJ := joinedT a none n 0 cap 0 zs [] w h (reads_nil w) (by omega) (by omega)
    rw [e0]
    rcases (show N < 0 ∨ 2147483647 < N by omega) with h1 | h1
    all_goals
      go_enter Tryz.func90, Tryz.ntmps90
      go_wp2_with fail
      refine hJ.mono ?_
      rintro e w1 ⟨g, rfl, hg, hlt, hrow⟩
      clear hJ
      go_wp2
      go_ret
      exact ⟨g, rfl, hg, hlt, hrow⟩
end Go.Proofs.YtpdkgmagjhibkaaGreatDoor.By

namespace Go.Proofs.YtpdkgmagjhibkaaGreatDoor.By
open Go.RowKit
set_option linter.unusedVariables false

/-- An owned slice that is not nil is a row. -/
theorem row_own {w : World} {B n : Nat} {v : Value} {zs : List Int} (h : w.ownsRow B 5 1 v n (vals zs)) (hv : v ≠ .slice none 0 0) : ∃ g cap, v = .slice (some ⟨g, 0, none⟩) n cap ∧ B ≤ g ∧ Row w g cap zs ∧ zs.length = n ∧ cap ≤ maxLen := by
  obtain ⟨hl, h⟩ := h
  rcases h with ⟨h, _⟩ | ⟨g, cap, cur, rfl, hb, hg, hn, hm, hs, ht⟩
  · exact absurd h hv
  · have hz : zs.length = n := by simpa [vals] using hl
    exact ⟨g, cap, rfl, hb, ⟨cur, hg, by simpa using hs, by rw [hz]; simpa using ht, by omega⟩, hz, hm⟩
theorem vals_app (a b : List Int) : vals a ++ vals b = vals (a ++ b) := by simp [vals]

theorem numB_len (N : Int) : (numB N).length ≤ 5 := by
  by_cases h : N < 0 ∨ 2147483647 < N
  · rw [numB_out h]; simp
  · rw [numB_in (by omega) (by omega)]
    rcases (show N < 128 ∨ (128 ≤ N ∧ N < 16384) ∨ (16384 ≤ N ∧ N < 2097152) ∨ (2097152 ≤ N ∧ N < 268435456) ∨ 268435456 ≤ N by omega) with h | ⟨h, h'⟩ | ⟨h, h'⟩ | ⟨h, h'⟩ | h
    · rw [putI (by omega) (by omega)]; simp
    · rw [putI_more (by omega), putI (by omega) (by omega)]; simp
    · rw [putI_more (by omega), putI_more (by omega), putI (by omega) (by omega)]; simp
    · rw [putI_more (by omega), putI_more (by omega), putI_more (by omega), putI (by omega) (by omega)]; simp
    · rw [putI_more (by omega), putI_more (by omega), putI_more (by omega), putI_more (by omega), putI (by omega) (by omega)]; simp
theorem own_lt {w : World} {B n : Nat} {v : Value} {xs : List Value} (h : w.ownsRow B 5 1 v n xs) : ∀ k, v.ownBlock = some k → B ≤ k := fun k hk => (h.lt k hk).1
/-- What one append of one byte leaves. -/
theorem own_step {w : World} {B n : Nat} {v : Value} {zs : List Int} {x : Int} (h : w.ownsRow B 5 1 v (n + 1) (vals zs ++ [.int .u8 x])) : w.ownsRow B 5 1 v (n + 1) (vals (zs ++ [x])) := by
  have e : vals zs ++ [.int .u8 x] = vals (zs ++ [x]) := by simp [vals]
  rwa [e] at h

set_option maxRecDepth 8000 in
set_option maxHeartbeats 2000000 in
theorem specPutM (g0 n cap : Nat) (zs : List Int) (N : Int) (w : World) (h : Row w g0 cap zs) (hl : zs.length = n) (hn : n ≤ 100000000) :
    Calls Tryz.prog 45 #[.slice (some ⟨g0, 0, none⟩) n cap, .int .i64 N] w fun e w' => ∃ g cp, e = .returned (.slice (some ⟨g, 0, none⟩) (n + (numB N).length) cp) ∧ w.grownBy w' none ∧ w.heap.size ≤ g ∧ Row w' g cp (zs ++ numB N) ∧ cp ≤ maxLen := by
  obtain ⟨i0, hi, hz0, hz1, hz2⟩ := info_parts info5
  have HO : Hid ((w.alloc (.cells #[] 5)).ownsRow w.heap.size 5 1 (.slice (some ⟨w.heap.size, 0, none⟩) 0 0) 0 []) := World.ownsRow_made w #[] 0 (Nat.le_refl _) (Nat.zero_le _) rfl
  have HN : Hid ((vals zs).length = n * 1) := by show _ = _; simp [vals, hl]
  have HC : Hid (∀ j u, (vals zs)[j]? = some u → (w.alloc (.cells #[] 5)).cell? ((⟨g0, 0, none⟩ : Addr).add j) = some u) := by
    have h2 := h.kept (World.grownBy_alloc w (.cells #[] 5) none) (by simp)
    exact vals_get (n := n) hl (fun i hi => by have := h2.cell i (by omega); simpa using this)
  have HB0 : Hid (Below w.heap.size w (w.alloc (.cells #[] 5))) := (Below.refl _ _).alloc (Nat.le_refl _) _
  have HL : Hid (zs.length = n) := hl
  have HV := vals_one zs
  have HV' : Hid (∀ v ∈ vals zs, v.oneCell' = true) := HV
  clear h hl HV
  have c1 : 0 + n ≤ maxLen := by unfold maxLen; omega
  have c2 : (0 + n) * 1 ≤ 140737488355328 := by omega
  have C1 : Hid (0 + n ≤ maxLen) := c1
  have C2 : Hid ((0 + n) * 1 ≤ 140737488355328) := c2
  clear c1 c2
  have fin : ∀ (v : Value) (w' : World) (m : Nat), w'.ownsRow w.heap.size 5 1 v m (vals (zs ++ numB N)) → v ≠ .slice none 0 0 → Below w.heap.size w w' → m = n + (numB N).length →
      ∃ g cp, Ending.returned v = .returned (.slice (some ⟨g, 0, none⟩) (n + (numB N).length) cp) ∧ w.grownBy w' none ∧ w.heap.size ≤ g ∧ Row w' g cp (zs ++ numB N) ∧ cp ≤ maxLen := by
    intro v w' m ho hv hb hm
    obtain ⟨g, cp, rfl, hB, hrow, hlen, hcp⟩ := row_own ho hv
    exact ⟨g, cp, by rw [hm], grown_of_below hb, hB, hrow, hcp⟩
  have FIN : Hid (∀ (v : Value) (w' : World) (m : Nat), w'.ownsRow w.heap.size 5 1 v m (vals (zs ++ numB N)) → v ≠ .slice none 0 0 → Below w.heap.size w w' → m = n + (numB N).length →
      ∃ g cp, Ending.returned v = .returned (.slice (some ⟨g, 0, none⟩) (n + (numB N).length) cp) ∧ w.grownBy w' none ∧ w.heap.size ≤ g ∧ Row w' g cp (zs ++ numB N) ∧ cp ≤ maxLen) := fin
  clear fin
  by_cases hN : N < 0 ∨ 2147483647 < N
  · have HE : Hid (numB N = []) := numB_out hN
    rcases hN with hN | hN
    all_goals
      go_enter Tryz.func45, Tryz.ntmps45
      go_wp2_with (at_builtin; go_must (refine wpList_append_own _ rfl (.tmp 6) (.tmp 7) 36 rfl w.heap.size 5 i0 (.int .u8 0) 1 1 Tryz.underlying36 hi hz0 hz1 hz2 rfl (by decide) (.slice (some ⟨w.heap.size, 0, none⟩) 0 0) 0 [] rfl HO.out ⟨g0, 0, none⟩ n cap (vals zs) rfl HN.out HC.out HV'.out C1.out C2.out (by simp) ?_); intro v1 w1 hown1 hgrow1 hnil1)
      go_ret
      have hb := HB0.out.grown hgrow1 (by simp) (own_lt HO.out)
      refine FIN.out v1 w1 (0 + n) ?_ ?_ hb ?_
      · rw [HE.out]; simpa using hown1
      · intro e; have hh := (hnil1.1 e).1; injection hh with h1; cases h1
      · rw [HE.out]; simp
  · have h0 : 0 ≤ N := by omega
    have h1 : N ≤ 2147483647 := by omega
    have HE : Hid (numB N = putB N.toNat) := numB_in h0 h1
    clear hN
    go_enter Tryz.func45, Tryz.ntmps45
    go_wp2_with (at_builtin; go_must (refine wpList_append_own _ rfl (.tmp 6) (.tmp 7) 36 rfl w.heap.size 5 i0 (.int .u8 0) 1 1 Tryz.underlying36 hi hz0 hz1 hz2 rfl (by decide) (.slice (some ⟨w.heap.size, 0, none⟩) 0 0) 0 [] rfl HO.out ⟨g0, 0, none⟩ n cap (vals zs) rfl HN.out HC.out HV'.out C1.out C2.out (by simp) ?_); intro v1 w1 hown1 hgrow1 hnil1)
    have hb1 := HB0.out.grown hgrow1 (by simp) (own_lt HO.out)
    have hne1 : v1 ≠ .slice none 0 0 := by intro e; have hh := (hnil1.1 e).1; injection hh with h1; cases h1
    have hown1' : w1.ownsRow w.heap.size 5 1 v1 (n + ([] : List Int).length) (vals (zs ++ [])) := by simpa using hown1
    have HOW1 : Hid (w1.ownsRow w.heap.size 5 1 v1 (n + ([] : List Int).length) (vals (zs ++ []))) := hown1'
    have HNE1 : Hid (v1 ≠ .slice none 0 0) := hne1
    have HB1 : Hid (Below w.heap.size w w1) := hb1
    clear hnil1 hgrow1 hown1 hown1' hne1 hb1 HO HN HC HV' HB0 C1 C2
    go_loopw [1, 5] (fun v o wr => ∃ (m : Int) (pre : List Int), v = .int .i64 m ∧ 0 ≤ m ∧ m ≤ 2147483647 ∧ Hid (wr.ownsRow w.heap.size 5 1 o (n + pre.length) (vals (zs ++ pre))) ∧ Hid (o ≠ .slice none 0 0) ∧ Hid (Below w.heap.size w wr) ∧ Hid (pre ++ putB m.toNat = numB N)) (fun v _ _ => (intOf v).toNat)
    case atStart => exact ⟨N, [], rfl, h0, h1, HOW1, HNE1, HB1, HE.out.symm⟩
    case round =>
      clear HOW1 HNE1 HB1 HE
      obtain ⟨m, pre, rfl, hm0, hm1, HOW, HNE, HB, HP⟩ := hrel
      have hpl : pre.length ≤ 5 := by
        have e := congrArg List.length HP.out
        have := numB_len N
        rw [List.length_append] at e; omega
      have hbs := HB.out.size
      have E1 : Hid (n + pre.length + 1 ≤ maxLen) := by show _ ≤ _; unfold maxLen; omega
      have E2 : Hid ((n + pre.length + 1) * 1 ≤ 140737488355328) := by show _ ≤ _; omega
      have E3 : ∀ o, Hid (w.heap.size ≤ (wr.alloc o).heap.size) := by intro o; show _ ≤ _; simp; omega
      by_cases hgt : 127 < m
      · have HP2 : Hid ((pre ++ [128 + m % 128]) ++ putB (m / 128).toNat = numB N) := by
          show _ = _
          have e := HP.out
          rw [putI_more (by omega)] at e
          rw [← e, List.append_assoc, List.singleton_append, Int.add_comm 128 (m % 128)]
        go_wp2_with (at_builtin; go_must (refine wpList_append_own _ rfl (.tmp 18) (.tmp 23) 36 rfl w.heap.size 5 i0 (.int .u8 0) 1 1 Tryz.underlying36 hi hz0 hz1 hz2 rfl (by decide) u5 (n + pre.length) (vals (zs ++ pre)) rfl (HOW.out.alloc _) ⟨wr.heap.size, 0, none⟩ 1 1 [.int .u8 (128 + m % 128)] rfl rfl (cell_one_new _ _ _) (by simp [Value.oneCell']) E1.out E2.out (E3 _).out ?_); intro v2 w2 hown2 hgrow2 hnil2)
        have OW2 : Hid (w2.ownsRow w.heap.size 5 1 v2 (n + (pre ++ [128 + m % 128]).length) (vals (zs ++ (pre ++ [128 + m % 128])))) := by
          show w2.ownsRow _ _ _ _ _ _
          have e := own_step hown2
          rw [List.append_assoc] at e
          have e2 : n + (pre ++ [128 + m % 128]).length = n + pre.length + 1 := by simp; omega
          rw [e2]; exact e
        have NE2 : Hid (v2 ≠ .slice none 0 0) := fun e => HNE.out (hnil2.1 e).1
        have B2 : Hid (Below w.heap.size w w2) := (HB.out.alloc hbs _).grown hgrow2 (by simp; omega) (own_lt HOW.out)
        clear hown2 hgrow2 hnil2
        go_roundw
        case rel => exact ⟨m / 128, pre ++ [128 + m % 128], rfl, by omega, by omega, OW2, NE2, B2, HP2⟩
        case measure => simp [intOf]; omega
      · have HP2 : Hid (pre ++ [m] = numB N) := by
          show _ = _
          have e := HP.out
          rw [putI hm0 (by omega)] at e
          exact e
        go_wp2_with (at_builtin; go_must (refine wpList_append_own _ rfl (.tmp 27) (.tmp 30) 36 rfl w.heap.size 5 i0 (.int .u8 0) 1 1 Tryz.underlying36 hi hz0 hz1 hz2 rfl (by decide) u5 (n + pre.length) (vals (zs ++ pre)) rfl (HOW.out.alloc _) ⟨wr.heap.size, 0, none⟩ 1 1 [.int .u8 m] rfl rfl (cell_one_new _ _ _) (by simp [Value.oneCell']) E1.out E2.out (E3 _).out ?_); intro v2 w2 hown2 hgrow2 hnil2)
        go_ret
        refine FIN.out v2 w2 (n + pre.length + 1) ?_ ?_ ?_ ?_
        · have e := own_step hown2
          rwa [List.append_assoc, HP2.out] at e
        · exact fun e => HNE.out (hnil2.1 e).1
        · exact (HB.out.alloc hbs _).grown hgrow2 (by simp; omega) (own_lt HOW.out)
        · have e := congrArg List.length HP2.out
          simp at e; omega

theorem specPut (g0 n cap : Nat) (zs : List Int) (N : Int) (w : World) (h : Row w g0 cap zs) (hl : zs.length = n) (hn : n ≤ 100000000) :
    Calls Tryz.prog 45 #[.slice (some ⟨g0, 0, none⟩) n cap, .int .i64 N] w fun e w' => ∃ g cp, e = .returned (.slice (some ⟨g, 0, none⟩) (n + (numB N).length) cp) ∧ w.grownBy w' none ∧ w.heap.size ≤ g ∧ Row w' g cp (zs ++ numB N) :=
  (specPutM g0 n cap zs N w h hl hn).mono fun e w' ⟨g, cp, he, hg, hb, hr, _⟩ => ⟨g, cp, he, hg, hb, hr⟩
theorem own_row {w : World} {B g cap n : Nat} {zs : List Int} (h : Row w g cap zs) (hl : zs.length = n) (hB : B ≤ g) (hm : cap ≤ maxLen) : w.ownsRow B 5 1 (.slice (some ⟨g, 0, none⟩) n cap) n (vals zs) := by
  obtain ⟨cur, hc, hs, ht, hle⟩ := h
  exact ⟨by simp [vals, hl], .inr ⟨g, cap, cur, rfl, hB, hc, by omega, hm, by omega, by rw [Nat.mul_one, ← hl]; exact ht⟩⟩
end Go.Proofs.YtpdkgmagjhibkaaGreatDoor.By
