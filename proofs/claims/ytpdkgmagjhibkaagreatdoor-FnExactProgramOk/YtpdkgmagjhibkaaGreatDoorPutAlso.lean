/-
  Several texts in one (IOp, Put). No statement is proved here.
-/
import Derived.Test.YtpdkgmagjhibkaaGreatDoorRows
import Derived.Test.YtpdkgmagjhibkaaGreatDoorIBAlso
import Derived.OpenShut
import Derived.ChangeArms
import Derived.LaidLaws
import Derived.Test.YtpdkgmagjhibkaaGreatDoorSBaAlso
import Derived.Laws.CopyOwn
namespace Go.Proofs.YtpdkgmagjhibkaaGreatDoor.By
open Go.RowKit
set_option linter.unusedVariables false
set_option maxRecDepth 100000

abbrev Ofm := Bool × Bool × Bool × Bool × Bool
def opsL : List Ofm := [(false, false, false, false, false), (true, true, false, false, false), (false, false, false, true, false), (false, false, false, false, false), (true, false, false, false, false), (false, false, false, false, false), (true, false, false, false, false), (true, false, false, false, false), (false, false, false, false, false), (false, false, false, false, false), (false, false, false, false, false), (false, false, false, false, false), (false, false, false, false, false), (false, false, false, false, false), (false, false, false, false, false), (false, false, false, false, false), (false, false, false, false, false), (false, false, false, false, false), (false, false, false, false, false), (false, false, false, false, false), (false, false, false, false, false), (true, false, true, false, false), (true, false, false, false, true), (true, false, false, false, false), (false, false, false, false, false), (false, false, false, false, false), (true, false, false, false, false), (true, false, false, false, false), (false, false, false, false, false), (true, false, false, false, false), (false, false, false, false, false), (true, false, false, false, false)]
theorem opsL_len : opsL.length = 32 := rfl
def cellsOf5 (f : Ofm) : List Value := [.bool f.1, .bool f.2.1, .bool f.2.2.1, .bool f.2.2.2.1, .bool f.2.2.2.2]
def datO {H : Type} (f : Ofm) : DataW H := .agg [.lit (.bool f.1), .lit (.bool f.2.1), .lit (.bool f.2.2.1), .lit (.bool f.2.2.2.1), .lit (.bool f.2.2.2.2)]
theorem opsA_cells : opsA.toList = opsL.flatMap cellsOf5 := by kernel_rfl
theorem laidO_dat : (Rows.laid_loop_example_g00293_impl_opForms : DataW Unit) = .agg (opsL.map datO) := by kernel_rfl

theorem rowsO_join : ∀ (rows : List Ofm) (cs : List Value), cs.length = rows.length * 5 → (∀ i f, rows[i]? = some f → (cs.drop (i * 5)).take 5 = cellsOf5 f) → cs = rows.flatMap cellsOf5
  | [], cs, h, _ => by simpa using h
  | f :: rows, cs, h, H => by
    have h0 : cs.take 5 = cellsOf5 f := by simpa using H 0 f rfl
    have ht : cs.drop 5 = rows.flatMap cellsOf5 := rowsO_join rows (cs.drop 5) (by simp at h ⊢; omega) (fun i g hg => by
      have := H (i + 1) g (by simpa using hg)
      rw [List.drop_drop]
      have e : 5 + i * 5 = (i + 1) * 5 := by omega
      rw [e]; exact this)
    rw [List.flatMap_cons, ← h0, ← ht, List.take_append_drop]

section
variable {H : Type} {enc : TypeId × Value → H} {W : World} {base : Nat} {spare : Nat → Bool} {held : Bool}
theorem ofm_of {m : Nat} {cs : List Value} {f : Ofm} {p : List MemPlace} (h : DataW.trod enc Tryz.prog W base spare held m 157 cs = some (datO f, p)) : cs = cellsOf5 f := by
  have c4 : Tryz.prog.cellsOf 4 = 1 := by kernel_rfl
  have c5 : Tryz.prog.cellsOf 157 = 5 := by kernel_rfl
  obtain ⟨xs, n, hn, hx, hl, hxl, hf⟩ := DataW.trod_struct Tryz.underlying157 h
  have f0 : DataW.trod enc Tryz.prog W base spare held n 4 ((cs.drop 0).take (Tryz.prog.cellsOf 4)) = xs[0]? := hf 0 _ rfl
  have f1 : DataW.trod enc Tryz.prog W base spare held n 4 ((cs.drop 1).take (Tryz.prog.cellsOf 4)) = xs[1]? := hf 1 _ rfl
  have f2 : DataW.trod enc Tryz.prog W base spare held n 4 ((cs.drop 2).take (Tryz.prog.cellsOf 4)) = xs[2]? := hf 2 _ rfl
  have f3 : DataW.trod enc Tryz.prog W base spare held n 4 ((cs.drop 3).take (Tryz.prog.cellsOf 4)) = xs[3]? := hf 3 _ rfl
  have f4 : DataW.trod enc Tryz.prog W base spare held n 4 ((cs.drop 4).take (Tryz.prog.cellsOf 4)) = xs[4]? := hf 4 _ rfl
  rw [c4] at f0 f1 f2 f3 f4
  have hx5 : xs.length = 5 := hxl
  rw [c5] at hl
  match cs, hl with
  | [v0, v1, v2, v3, v4], _ =>
  match xs, hx5 with
  | [x0, x1, x2, x3, x4], _ =>
  obtain ⟨s0, e0, d0⟩ := DataW.trod_bool Tryz.underlying4 (show DataW.trod enc Tryz.prog W base spare held n 4 [v0] = some x0 from f0)
  obtain ⟨s1, e1, d1⟩ := DataW.trod_bool Tryz.underlying4 (show DataW.trod enc Tryz.prog W base spare held n 4 [v1] = some x1 from f1)
  obtain ⟨s2, e2, d2⟩ := DataW.trod_bool Tryz.underlying4 (show DataW.trod enc Tryz.prog W base spare held n 4 [v2] = some x2 from f2)
  obtain ⟨s3, e3, d3⟩ := DataW.trod_bool Tryz.underlying4 (show DataW.trod enc Tryz.prog W base spare held n 4 [v3] = some x3 from f3)
  obtain ⟨s4, e4, d4⟩ := DataW.trod_bool Tryz.underlying4 (show DataW.trod enc Tryz.prog W base spare held n 4 [v4] = some x4 from f4)
  subst d0 d1 d2 d3 d4
  have hd := congrArg Prod.fst hx
  simp only [datO, List.map_cons, List.map_nil, DataW.agg.injEq, List.cons.injEq, DataW.lit.injEq, Lit.bool.injEq, and_true] at hd
  obtain ⟨q0, q1, q2, q3, q4⟩ := hd
  cases e0; cases e1; cases e2; cases e3; cases e4
  unfold cellsOf5
  rw [q0, q1, q2, q3, q4]

theorem ops_of {fuel : Nat} {cs : List Value} {p : List MemPlace} (h : DataW.trod enc Tryz.prog W base spare held fuel 177 cs = some (.agg (opsL.map datO), p)) : cs = opsA.toList := by
  have c4 : Tryz.prog.cellsOf 157 = 5 := by kernel_rfl
  have c160 : Tryz.prog.cellsOf 177 = 160 := by kernel_rfl
  obtain ⟨xs, m, hm, hx, hl, hxl, he⟩ := DataW.trod_array Tryz.underlying177 h
  rw [c160] at hl
  have hd : opsL.map datO = xs.map (·.1) := by
    have := congrArg Prod.fst hx
    simpa only [DataW.agg.injEq] using this
  rw [opsA_cells]
  refine rowsO_join opsL cs (by rw [hl, opsL_len]) fun i f hf => ?_
  have hi : i < 32 := by
    have := (List.getElem?_eq_some_iff.1 hf).1
    rwa [opsL_len] at this
  have h1 := he i hi
  rw [c4] at h1
  have h2 : (xs.map (·.1))[i]? = some (datO f) := by rw [← hd, List.getElem?_map, hf]; rfl
  rw [List.getElem?_map] at h2
  obtain ⟨⟨y, z⟩, hy, hz⟩ := Option.map_eq_some_iff.1 h2
  rw [hy] at h1
  obtain rfl : y = datO f := hz
  exact ofm_of h1
end

theorem opsIn_of_laid {W : World} {rest : List (String × DataW Unit)} (h : laidMet Tryz.prog (("loop.example/g00293/impl.opForms", Rows.laid_loop_example_g00293_impl_opForms) :: rest) W) : OpsIn W := by
  obtain ⟨ps, ⟨g, t, cs, fuel, p, q, hg, ht, hvar, hd, _, _⟩, _⟩ := h
  obtain rfl := Option.some.inj ((show Tryz.prog.globalNamed "loop.example/g00293/impl.opForms" = some 0 by kernel_rfl).symm.trans hg)
  obtain rfl := Option.some.inj ((show (Tryz.prog.globals[0]?).map (·.type) = some 177 by kernel_rfl).symm.trans ht)
  rw [laidO_dat] at hd
  have hc : cs.toList = opsA.toList := ops_of hd
  obtain rfl : cs = opsA := by
    cases cs; cases hfa : opsA
    rw [hfa] at hc
    simp at hc
    rw [hc]
  unfold World.var? at hvar
  rw [hg] at hvar
  simp only [Option.bind_some] at hvar
  split at hvar
  · rename_i c t' fr hh
    exact ⟨t', fr, by rw [hh]; cases hvar; rfl⟩
  · cases hvar

end Go.Proofs.YtpdkgmagjhibkaaGreatDoor.By

namespace Go.Proofs.YtpdkgmagjhibkaaGreatDoor.By
open Go.RowKit
set_option linter.unusedVariables false

/-- The bytes of a number, in at most f + 1 steps. -/
def putF : Nat → Nat → List Int
  | 0, n => [(n : Int)]
  | f + 1, n => if n ≤ 127 then [(n : Int)] else ((n % 128 + 128 : Nat) : Int) :: putF f (n / 128)
/-- The bytes of a number. -/
def putB (n : Nat) : List Int := putF n n
theorem putF_same : ∀ (f g n : Nat), n ≤ f → n ≤ g → putF f n = putF g n := by
  intro f
  induction f with
  | zero =>
    intro g n hf hg
    obtain rfl : n = 0 := by omega
    cases g with
    | zero => rfl
    | succ g => rw [putF, putF, if_pos (by omega)]
  | succ f ih =>
    intro g n hf hg
    cases g with
    | zero =>
      obtain rfl : n = 0 := by omega
      rw [putF, putF, if_pos (by omega)]
    | succ g =>
      rw [putF, putF]
      by_cases h : n ≤ 127
      · rw [if_pos h, if_pos h]
      · rw [if_neg h, if_neg h, ih g (n / 128) (by omega) (by omega)]
theorem putB_small {n : Nat} (h : n ≤ 127) : putB n = [(n : Int)] := by
  unfold putB
  cases n with
  | zero => rfl
  | succ n => rw [putF, if_pos h]
theorem putB_more {n : Nat} (h : 127 < n) : putB n = ((n % 128 + 128 : Nat) : Int) :: putB (n / 128) := by
  unfold putB
  obtain ⟨k, rfl⟩ : ∃ k, n = k + 1 := ⟨n - 1, by omega⟩
  rw [putF, if_neg (by omega), putF_same k ((k + 1) / 128) ((k + 1) / 128) (by omega) (Nat.le_refl _)]
theorem putB_byt (n : Nat) : Byt (putB n) := by
  induction n using Nat.strongRecOn with
  | ind n ih =>
    by_cases h : n ≤ 127
    · rw [putB_small h]; intro z hz; simp at hz; omega
    · rw [putB_more (by omega)]
      intro z hz
      rcases List.mem_cons.1 hz with rfl | hz
      · omega
      · exact ih (n / 128) (by omega) z hz

theorem vals_one (zs : List Int) : ∀ v ∈ vals zs, v.oneCell' = true := ints_oneCell .u8 zs
theorem vals_get {w : World} {b off n : Nat} {zs : List Int} (hl : zs.length = n) (hc : ∀ i, i < n → w.cell? ⟨b, off + i, none⟩ = some (.int .u8 (zs.getD i 0))) : ∀ j v, (vals zs)[j]? = some v → w.cell? ((⟨b, off, none⟩ : Addr).add j) = some v := by
  intro j v hj
  have hj' : j < n := by
    have := (List.getElem?_eq_some_iff.1 hj).1; simpa [vals, hl] using this
  have h := hc j hj'
  have e : ((⟨b, off, none⟩ : Addr).add j) = ⟨b, off + j, none⟩ := by
    by_cases h0 : j = 0
    · subst h0; simp [Addr.add]
    · simp [Addr.add, h0]
  rw [e, h, ← hj]
  simp [vals, List.getD_eq_getElem?_getD, List.getElem?_eq_getElem (show j < zs.length by omega)]

theorem splice_two (n m : Nat) (zs ys : List Int) (hz : zs.length = n) (hy : ys.length = m) :
    splice (splice (vals (List.replicate (n + m) 0)) 0 (vals zs)) n (vals ys) = vals (zs ++ ys) := by
  have h1 : (vals zs).length = n := by simp [vals, hz]
  have h2 : (vals ys).length = m := by simp [vals, hy]
  have e : splice (vals (List.replicate (n + m) 0)) 0 (vals zs) = vals zs ++ (vals (List.replicate (n + m) 0)).drop n := by simp [splice, h1]
  rw [e]
  unfold splice
  rw [List.take_append_of_le_length (by omega), List.take_of_length_le (by omega), h2, List.drop_append, List.drop_of_length_le (by omega), h1]
  simp [vals]

theorem grown_of_below {w w' : World} (h : Below w.heap.size w w') : w.grownBy w' none := ⟨h.os, h.tape, h.output, h.size, fun k hk _ => h.block k hk⟩
theorem size1 : (Tryz.prog.info? 5).map (·.size) = some 1 := by kernel_rfl

theorem made_is (n : Nat) : madeCells #[.int .u8 0] n = (vals (List.replicate n 0)).toArray := by
  apply Array.ext'; rw [toList_madeCells_one]; simp [vals]
/-- What a slice reads lies there, in every world behind it that left old memory alone. -/
theorem src_of {w w' : World} {a : Option Addr} {n : Nat} {zs : List Int} (h : Reads w a n zs) (hb : Below w.heap.size w w') : 0 < (vals zs).length → ∃ ad, a = some ad ∧ ∀ j v, (vals zs)[j]? = some v → w'.cell? (ad.add j) = some v := by
  intro hp
  obtain ⟨hl, h⟩ := h.below hb
  rcases h with h | ⟨b, off, rfl, hc⟩
  · simp [vals] at hp; omega
  · exact ⟨_, rfl, vals_get hl hc⟩
theorem row_of {w : World} {g n : Nat} {zs : List Int} (h : w.heap[g]? = some (.cells (vals zs).toArray 5 (0, 0))) (hl : zs.length = n) : Row w g n zs :=
  ⟨_, h, by simp [vals, hl], by rw [List.take_of_length_le (by simp [vals])], by omega⟩

set_option maxHeartbeats 1000000 in
theorem joinedT (a a' : Option Addr) (n m cap cap' : Nat) (zs ys : List Int) (w : World) (h : Reads w a n zs) (h' : Reads w a' m ys) (hn : n ≤ 2000000) (hm : m ≤ 2000000) :
    Calls Tryz.prog 111 #[.slice a n cap, .slice a' m cap'] w fun e w' => ∃ g, e = .returned (.slice (some ⟨g, 0, none⟩) (n + m) (n + m)) ∧ w.grownBy w' none ∧ w.heap.size ≤ g ∧ Row w' g (n + m) (zs ++ ys) := by
  have hsz := fun w' (hb : Below w.heap.size w w') => src_of h hb
  have hsy := fun w' (hb : Below w.heap.size w w') => src_of h' hb
  have hl := h.1
  have hl' := h'.1
  clear h h'
  have hmk := make_run (n + m) (by omega)
  have ec : ((n + m : Nat) : Int) = (n : Int) + (m : Int) := by omega
  rw [ec, made_is] at hmk
  have HE : Hid (splice (splice (vals (List.replicate (n + m) 0)) 0 (vals zs)) n (vals ys) = vals (zs ++ ys)) := splice_two n m zs ys hl hl'
  have hzl : (vals zs).length = n := by simp [vals, hl]
  have hyl : (vals ys).length = m := by simp [vals, hl']
  have hol : (vals (List.replicate (n + m) 0)).length = n + m := by simp [vals]
  have hz1 := vals_one zs
  have hy1 := vals_one ys
  have HL : Hid ((zs ++ ys).length = n + m) := by show _ = _; simp [hl, hl']
  generalize hZ : vals zs = Z at *
  generalize hY : vals ys = Y at *
  generalize hO : vals (List.replicate (n + m) 0) = O at *
  have HZ : Hid (n = Z.length) := hzl.symm
  have HY : Hid (m = Y.length) := hyl.symm
  have HO : Hid (O.length = n + m) := hol
  have HZ1 : Hid (∀ v ∈ Z, v.oneCell' = true) := hz1
  have HY1 : Hid (∀ v ∈ Y, v.oneCell' = true) := hy1
  have HSZ : Hid (∀ w', Below w.heap.size w w' → 0 < Z.length → ∃ ad, a = some ad ∧ ∀ j v, Z[j]? = some v → w'.cell? (ad.add j) = some v) := hsz
  have HSY : Hid (∀ w', Below w.heap.size w w' → 0 < Y.length → ∃ ad, a' = some ad ∧ ∀ j v, Y[j]? = some v → w'.cell? (ad.add j) = some v) := hsy
  clear ec hzl hyl hol hz1 hy1 hsz hsy hl hl' hZ hY hO
  have hb0 : Below w.heap.size w (w.alloc (.cells O.toArray 5)) := (Below.refl _ _).alloc (Nat.le_refl _) _
  have HB0 : Hid (Below w.heap.size w (w.alloc (.cells O.toArray 5))) := hb0
  clear hb0
  have c1 : Z.length = Nat.min n (n + m) := by have := HZ.out; rw [← this]; exact (Nat.min_eq_left (by omega)).symm
  have c2 : 0 + Z.length ≤ O.length := by have := HZ.out; have := HO.out; omega
  have C1 : Hid (Z.length = Nat.min n (n + m)) := c1
  have C2 : Hid (0 + Z.length ≤ O.length) := c2
  clear c1 c2
  have D3 : Hid (n + Y.length ≤ (splice O 0 Z).length) := by
    have h1 := length_splice O 0 Z C2.out
    have := HO.out; have := HY.out
    show _ ≤ _
    rw [h1]; omega
  by_cases hm0 : 0 < m
  · go_enter Tryz.func111, Tryz.ntmps111
    go_wp2_with (first
      | (refine wpList_copy_splice rfl (.tmp 12) (.tmp 13) 36 36 rfl 5 Tryz.underlying36 size1 _ _ _ _ _ _ rfl rfl w.heap.size 0 O 5 (heap_alloc_new w _) Z C1.out (fun hp => ⟨rfl, HSZ.out _ HB0.out hp⟩) C2.out HZ1.out w.heap.size w HB0.out (Nat.le_refl _) ?_; intro w2 HG2 hB2)
      | (refine wpList_copy_splice rfl (.tmp 18) (.tmp 19) 36 36 rfl 5 Tryz.underlying36 size1 _ _ _ _ _ _ rfl rfl w.heap.size n (splice O 0 Z) 5 HG2.out Y ?d1 ?d2 D3.out HY1.out w.heap.size w hB2 (Nat.le_refl _) ?d3))
    case d1 => have := HY.out; rw [← this]; first | exact (Nat.min_self _).symm | (simp; omega)
    case d2 => exact HSY.out _ hB2
    case d3 =>
      intro w3 HG3 hB3
      go_wp2
      go_ret
      refine ⟨_, rfl, grown_of_below hB3, Nat.le_refl _, row_of ?_ HL.out⟩
      have := HG3.out; rwa [HE.out] at this
  · go_enter Tryz.func111, Tryz.ntmps111
    go_wp2_with (first
      | (refine wpList_copy_splice rfl (.tmp 12) (.tmp 13) 36 36 rfl 5 Tryz.underlying36 size1 _ _ _ _ _ _ rfl rfl w.heap.size 0 O 5 (heap_alloc_new w _) Z C1.out (fun hp => ⟨rfl, HSZ.out _ HB0.out hp⟩) C2.out HZ1.out w.heap.size w HB0.out (Nat.le_refl _) ?_; intro w2 HG2 hB2)
      | (refine wpList_copy_splice rfl (.tmp 18) (.tmp 19) 36 36 rfl 5 Tryz.underlying36 size1 _ _ _ _ _ _ rfl rfl w.heap.size n (splice O 0 Z) 5 HG2.out Y ?d1 ?d2 D3.out HY1.out w.heap.size w hB2 (Nat.le_refl _) ?d3))
    case d1 => have := HY.out; rw [← this]; first | exact (Nat.min_self _).symm | (simp; omega)
    case d2 => exact fun hp => absurd hp (by have := HY.out; omega)
    case d3 =>
      intro w3 HG3 hB3
      go_wp2
      go_ret
      obtain ⟨k, hk⟩ : ∃ k, k = n + m := ⟨_, rfl⟩
      have hk' : k = n := by omega
      rw [← hk]
      refine ⟨w.heap.size, by rw [hk']; rfl, grown_of_below hB3, Nat.le_refl _, row_of ?_ (HL.out.trans hk.symm)⟩
      have := HG3.out; rwa [HE.out] at this
end Go.Proofs.YtpdkgmagjhibkaaGreatDoor.By
