/-
  Several texts in one (QD, PC). No statement is proved here.
-/
import Derived.Test.YtpdkgmagjhibkaaGreatDoorQC
import Derived.Test.YtpdkgmagjhibkaaGreatDoorSInss
import Derived.Test.YtpdkgmagjhibkaaGreatDoorSBlock
import Derived.Test.YtpdkgmagjhibkaaGreatDoorPB
import Derived.Test.YtpdkgmagjhibkaaGreatDoorSBlocks
import Derived.Test.YtpdkgmagjhibkaaGreatDoorSOpLayoutsAlso
namespace Go.Proofs.YtpdkgmagjhibkaaGreatDoor.By
open Go.RowKit
set_option linter.unusedVariables false
set_option linter.unusedSimpArgs false

theorem typ2T (B q : Nat) (v : Value) (zs : List Int) (k1 n1 k2 n2 : Int) (d1 d2 : F) (a2 : Option Addr) (l2 c2 : Nat) (a3 : Option Addr) (l3 c3 : Nat) (w : World) (h : WrS B q w v zs) (hR : ∀ u, FrQ B q w u → SlF u a2 l2 d1 ∧ SlF u a3 l3 d2) (hb : zs.length + 1320 ≤ 90000000) :
    Calls Tryz.prog 59 #[.pointer (some ⟨q, 0, none⟩), .slice (some ⟨w.heap.size, 0, none⟩) 2 2] (w.alloc (.cells #[.int .i64 k1, .int .i64 n1, .slice a2 l2 c2, .int .i64 k2, .int .i64 n2, .slice a3 l3 c3] 60)) fun e u => e = .returned (.tuple #[]) ∧ ∃ v', WrS B q u v' (zs ++ (bytesV k1 n1 d1 ++ bytesV k2 n2 d2)) ∧ FrQ B q w u := by
  have ga := World.grownBy_alloc w (.cells #[.int .i64 k1, .int .i64 n1, .slice a2 l2 c2, .int .i64 k2, .int .i64 n2, .slice a3 l3 c3] 60) none
  have ba := heap_alloc_new w (.cells #[.int .i64 k1, .int .i64 n1, .slice a2 l2 c2, .int .i64 k2, .int .i64 n2, .slice a3 l3 c3] 60)
  have hq : q ≠ w.heap.size := by have := lt_of_block h.box; omega
  refine (typesT B q v zs (.cons k1 n1 d1 (.cons k2 n2 d2 .nil)) (some ⟨w.heap.size, 0, none⟩) 2 2 _ (h.grown ga) (fun u hu => ?_) (by omega)).mono ?_
  · have b2 := hu.other _ _ _ _ ba (by decide) (fun e => hq e.symm)
    have cc := fun j => cell_of_row u w.heap.size j _ _ (0, 0) b2
    obtain ⟨h1, h2⟩ := hR u ((FrQ.grown ga h.size).trans hu)
    exact ⟨rfl, by omega, .inr ⟨_, _, rfl, InF.mk ((cc 0).trans rfl) ((cc 1).trans rfl) ((cc 2).trans rfl) h1 (InF.mk ((cc 3).trans rfl) ((cc 4).trans rfl) ((cc 5).trans rfl) h2 trivial)⟩⟩
  · rintro e u ⟨he, v', hw, hf⟩
    exact ⟨he, v', by simpa [tysB] using hw, (FrQ.grown ga h.size).trans hf⟩
theorem cle_below {W0 u : World} (h : Below W0.heap.size W0 u) : CLe W0 u := fun p v hv => by rw [h.cell (p := p) (block_lt_of_cell hv)]; exact hv
theorem OpsIn.below {W0 u : World} (h : OpsIn W0) (k : Below W0.heap.size W0 u) : OpsIn u := by
  obtain ⟨t, fr, h⟩ := h
  exact ⟨t, fr, (k.block _ (lt_of_block h)).trans h⟩
def codeB : List RIns → List Int
  | [] => []
  | x :: r => insB x ++ codeB r
theorem codeB_app (a b : List RIns) : codeB (a ++ b) = codeB a ++ codeB b := by
  induction a with
  | nil => rfl
  | cons x r ih => simp [codeB, ih]
theorem ins_facts {x : RIns} (hv : insV x = true) : (0 ≤ x.op ∧ x.op ≤ 31) ∧ (x.op = 22 → x.tos.length ≤ 5) ∧ (x.op = 2 → x.lit.length ≤ 20) := by
  unfold insV at hv
  simp only [opOk, Bool.and_eq_true, decide_eq_true_eq] at hv
  refine ⟨hv.1.1.1.1, fun e => ?_, fun e => ?_⟩
  · have := hv.2
    rw [e] at this
    simp only [tV, decide_true, if_true, toV, Bool.and_eq_true, decide_eq_true_eq] at this
    exact this.1.2
  · have := hv.1.2
    rw [e] at this
    simp only [lV, decide_true, if_true, litV, Bool.and_eq_true, decide_eq_true_eq] at this
    exact this.1
theorem insB_len {x : RIns} (hv : insV x = true) : (insB x).length ≤ 100 := by
  obtain ⟨-, h1, h2⟩ := ins_facts hv
  unfold insB
  have q1 := numB_len (foldV x.a)
  have q2 := numB_len x.a
  have q3 := numB_len x.b
  have q4 := numB_len (x.tos.length : Int)
  have q5 := numsB_len x.tos
  have e1 : (if x.op = 1 then numB (foldV x.a) else if hasA x.op then numB x.a else []).length ≤ 5 := by
    split
    · omega
    · split
      · omega
      · simp
  have e2 : (if x.op = 21 then numB x.b else []).length ≤ 5 := by
    split
    · omega
    · simp
  have e3 : (if x.op = 22 then numB (x.tos.length : Int) ++ numsB x.tos else []).length ≤ 30 := by
    split
    · rename_i h; have := h1 h; simp only [List.length_append]; omega
    · simp
  have e4 : (if x.op = 2 then textB x.lit else []).length ≤ 40 := by
    split
    · rename_i h; exact textB_len _ (h2 h)
    · simp
  simp only [List.length_cons, List.length_append]
  omega
theorem codeB_len : ∀ (l : List RIns), (l.any fun x => !insV x) = false → (codeB l).length ≤ 100 * l.length
  | [], _ => by simp [codeB]
  | x :: r, h => by
    simp only [List.any_cons, Bool.or_eq_false_iff, Bool.not_eq_false'] at h
    have := insB_len h.1
    have := codeB_len r h.2
    simp only [codeB, List.length_append, List.length_cons]; omega
def blockB (x : RBlock) : List Int := numB (x.env.len : Int) ++ (tysB x.env ++ ((bytesV x.argk x.argn x.argf ++ bytesV x.resk x.resn x.resf) ++ (numB (x.locs.len : Int) ++ (tysB x.locs ++ (numB (x.code.length : Int) ++ codeB x.code)))))
/-- What is kept while a block is written. -/
structure BkS (B q p3 : Nat) (w u : World) (v : Value) (zs : List Int) (x : RBlock) (a1 : Option Addr) (l1 c1 : Nat) (a2 : Option Addr) (l2 c2 : Nat) (a3 : Option Addr) (l3 c3 : Nat) (a4 : Option Addr) (l4 c4 : Nat) (a5 : Option Addr) (l5 c5 : Nat) : Prop where
  wr : WrS B q u v zs
  fr : FrQ B q w u
  box : u.heap[p3]? = some (Obj.cells #[.slice a1 l1 c1, .int .i64 x.argk, .int .i64 x.argn, .slice a2 l2 c2, .int .i64 x.resk, .int .i64 x.resn, .slice a3 l3 c3, .slice a4 l4 c4, .slice a5 l5 c5] 63)
theorem BkS.go {B q p3 : Nat} {w u u' : World} {v v' : Value} {zs zs' : List Int} {x : RBlock} {a1 a2 a3 a4 a5 : Option Addr} {l1 c1 l2 c2 l3 c3 l4 c4 l5 c5 : Nat} (h : BkS B q p3 w u v zs x a1 l1 c1 a2 l2 c2 a3 l3 c3 a4 l4 c4 a5 l5 c5) (hw : WrS B q u' v' zs') (hf : FrQ B q u u') (hp : p3 ≠ q) : BkS B q p3 w u' v' zs' x a1 l1 c1 a2 l2 c2 a3 l3 c3 a4 l4 c4 a5 l5 c5 :=
  ⟨hw, h.fr.trans hf, hf.other _ _ _ _ h.box (by decide) hp⟩

set_option maxRecDepth 8000 in
set_option maxHeartbeats 8000000 in
theorem blockWT (B q : Nat) (v : Value) (zs : List Int) (x : RBlock) (a1 : Option Addr) (l1 c1 : Nat) (a2 : Option Addr) (l2 c2 : Nat) (a3 : Option Addr) (l3 c3 : Nat) (a4 : Option Addr) (l4 c4 : Nat) (a5 : Option Addr) (l5 c5 : Nat) (M : Nat) (W0 w : World) (hB : B = W0.heap.size) (h : WrS B q w v zs) (hbl : Below W0.heap.size W0 w) (h0 : RdBlock W0 x a1 l1 a2 l2 a3 l3 a4 l4 a5 l5) (hO : OpsIn W0) (hv : blockV M x = true) (hb : zs.length + 200000 ≤ 90000000) :
    Calls Tryz.prog 60 #[.pointer (some ⟨q, 0, none⟩), .agg #[.slice a1 l1 c1, .int .i64 x.argk, .int .i64 x.argn, .slice a2 l2 c2, .int .i64 x.resk, .int .i64 x.resn, .slice a3 l3 c3, .slice a4 l4 c4, .slice a5 l5 c5]] w fun e u => e = .returned (.tuple #[]) ∧ ∃ v', WrS B q u v' (zs ++ blockB x) ∧ FrQ B q w u := by
  have g0 := World.grownBy_alloc w (.cells #[.slice a1 l1 c1, .int .i64 x.argk, .int .i64 x.argn, .slice a2 l2 c2, .int .i64 x.resk, .int .i64 x.resn, .slice a3 l3 c3, .slice a4 l4 c4, .slice a5 l5 c5] 63) none
  have b0 := heap_alloc_new w (.cells #[.slice a1 l1 c1, .int .i64 x.argk, .int .i64 x.argn, .slice a2 l2 c2, .int .i64 x.resk, .int .i64 x.resn, .slice a3 l3 c3, .slice a4 l4 c4, .slice a5 l5 c5] 63)
  have hq : w.heap.size ≠ q := by have := lt_of_block h.box; omega
  have hr0 := h0
  have BLW : Hid (∀ u, FrQ B q w u → Below W0.heap.size W0 u) := fun u hu => hbl.trans (by rw [← hB]; exact hu.below)
  have hR : ∀ u, FrQ B q w u → RdBlock u x a1 l1 a2 l2 a3 l3 a4 l4 a5 l5 ∧ OpsIn u := fun u hu => ⟨h0.le (cle_below (BLW.out u hu)), hO.below (BLW.out u hu)⟩
  have e1 : x.env.len = l1 := hr0.1.1
  have e4 : x.locs.len = l4 := hr0.2.2.2.1.1
  have e5 : x.code.length = l5 := hr0.2.2.2.2.1
  have m1 := hr0.1.2.1
  have m4 := hr0.2.2.2.1.2.1
  have m5 := hr0.2.2.2.2.2.1
  unfold blockV at hv
  simp only [Bool.and_eq_true, decide_eq_true_eq, Bool.not_eq_true'] at hv
  obtain ⟨⟨⟨⟨n1, n4⟩, n5⟩, n6⟩, -, hall⟩ := hv
  have hs1 := tysB_len x.env
  have hs4 := tysB_len x.locs
  have hs2 := bytesV_len x.argk x.argn x.argf
  have hs3 := bytesV_len x.resk x.resn x.resf
  have hs5 := codeB_len x.code hall
  have hnA := numB_len (l1 : Int)
  have hnB := numB_len (l4 : Int)
  have hnC := numB_len (l5 : Int)
  rw [e1] at n1 hs1
  rw [e4] at n4 hs4
  rw [e5] at n5 n6 hs5
  have L0 : Hid (BkS B q w.heap.size w (w.alloc (.cells #[.slice a1 l1 c1, .int .i64 x.argk, .int .i64 x.argn, .slice a2 l2 c2, .int .i64 x.resk, .int .i64 x.resn, .slice a3 l3 c3, .slice a4 l4 c4, .slice a5 l5 c5] 63)) v zs x a1 l1 c1 a2 l2 c2 a3 l3 c3 a4 l4 c4 a5 l5 c5) := ⟨h.grown g0, FrQ.grown g0 h.size, b0⟩
  have HR : Hid (∀ u, FrQ B q w u → RdBlock u x a1 l1 a2 l2 a3 l3 a4 l4 a5 l5 ∧ OpsIn u) := hR
  have HALL : Hid ((x.code.any fun x => !insV x) = false) := hall
  have HBB : Hid (blockB x = numB (l1 : Int) ++ (tysB x.env ++ ((bytesV x.argk x.argn x.argf ++ bytesV x.resk x.resn x.resf) ++ (numB (l4 : Int) ++ (tysB x.locs ++ (numB (l5 : Int) ++ codeB x.code)))))) := by show _ = _; unfold blockB; rw [e1, e4, e5]
  have H0 : Hid (RdBlock W0 x a1 l1 a2 l2 a3 l3 a4 l4 a5 l5 ∧ OpsIn W0) := ⟨h0, hO⟩
  clear h hR hr0 g0 b0 hall e1 e4 h0 hO hbl
  obtain ⟨⟨y0, y1, y2, y3, y4, y5, y6, y7, y8⟩, -⟩ := blkBlock L0.out.box
  go_enter Tryz.func60, Tryz.ntmps60
  go_upto_region 1 with fail
  generalize w.alloc (.cells #[.slice a1 l1 c1, .int .i64 x.argk, .int .i64 x.argn, .slice a2 l2 c2, .int .i64 x.resk, .int .i64 x.resn, .slice a3 l3 c3, .slice a4 l4 c4, .slice a5 l5 c5] 63) = v0 at *
  generalize w.heap.size = p3 at *
  have C0 : Hid _ := num1T B q _ _ ((l1 : Nat) : Int) v0 L0.out.wr (by (try simp only [List.length_append]); omega)
  go_wp2_with fail
  refine Calls.mono C0.out ?_
  rintro e v1 ⟨he, vv0, hw, hf⟩
  subst he
  have L1 : Hid (BkS B q p3 w v1 vv0 (zs ++ numB (l1 : Int)) x a1 l1 c1 a2 l2 c2 a3 l3 c3 a4 l4 c4 a5 l5 c5) := L0.out.go hw hf hq
  clear C0 hw hf L0 y0 y1 y2 y3 y4 y5 y6 y7 y8
  obtain ⟨⟨y0, y1, y2, y3, y4, y5, y6, y7, y8⟩, -⟩ := blkBlock L1.out.box
  simp only []
  have C1 : Hid _ := typesT B q _ _ x.env a1 l1 c1 v1 L1.out.wr (fun u hu => (HR.out u (L1.out.fr.trans hu)).1.1) (by (try simp only [List.length_append]); omega)
  go_wp2_with fail
  refine Calls.mono C1.out ?_
  rintro e v2 ⟨he, vv1, hw, hf⟩
  subst he
  have L2 : Hid (BkS B q p3 w v2 vv1 ((zs ++ numB (l1 : Int)) ++ tysB x.env) x a1 l1 c1 a2 l2 c2 a3 l3 c3 a4 l4 c4 a5 l5 c5) := L1.out.go hw hf hq
  clear C1 hw hf L1 y0 y1 y2 y3 y4 y5 y6 y7 y8
  obtain ⟨⟨y0, y1, y2, y3, y4, y5, y6, y7, y8⟩, -⟩ := blkBlock L2.out.box
  simp only []
  have C2 : Hid _ := typ2T B q _ _ x.argk x.argn x.resk x.resn x.argf x.resf a2 l2 c2 a3 l3 c3 v2 L2.out.wr (fun u hu => ⟨(HR.out u (L2.out.fr.trans hu)).1.2.1, (HR.out u (L2.out.fr.trans hu)).1.2.2.1⟩) (by (try simp only [List.length_append]); omega)
  go_wp2_with fail
  refine Calls.mono C2.out ?_
  rintro e v3 ⟨he, vv2, hw, hf⟩
  subst he
  have L3 : Hid (BkS B q p3 w v3 vv2 (((zs ++ numB (l1 : Int)) ++ tysB x.env) ++ (bytesV x.argk x.argn x.argf ++ bytesV x.resk x.resn x.resf)) x a1 l1 c1 a2 l2 c2 a3 l3 c3 a4 l4 c4 a5 l5 c5) := L2.out.go hw hf hq
  clear C2 hw hf L2 y0 y1 y2 y3 y4 y5 y6 y7 y8
  obtain ⟨⟨y0, y1, y2, y3, y4, y5, y6, y7, y8⟩, -⟩ := blkBlock L3.out.box
  simp only []
  have C3 : Hid _ := num1T B q _ _ ((l4 : Nat) : Int) v3 L3.out.wr (by (try simp only [List.length_append]); omega)
  go_wp2_with fail
  refine Calls.mono C3.out ?_
  rintro e v4 ⟨he, vv3, hw, hf⟩
  subst he
  have L4 : Hid (BkS B q p3 w v4 vv3 ((((zs ++ numB (l1 : Int)) ++ tysB x.env) ++ (bytesV x.argk x.argn x.argf ++ bytesV x.resk x.resn x.resf)) ++ numB (l4 : Int)) x a1 l1 c1 a2 l2 c2 a3 l3 c3 a4 l4 c4 a5 l5 c5) := L3.out.go hw hf hq
  clear C3 hw hf L3 y0 y1 y2 y3 y4 y5 y6 y7 y8
  obtain ⟨⟨y0, y1, y2, y3, y4, y5, y6, y7, y8⟩, -⟩ := blkBlock L4.out.box
  simp only []
  have C4 : Hid _ := typesT B q _ _ x.locs a4 l4 c4 v4 L4.out.wr (fun u hu => (HR.out u (L4.out.fr.trans hu)).1.2.2.2.1) (by (try simp only [List.length_append]); omega)
  go_wp2_with fail
  refine Calls.mono C4.out ?_
  rintro e v5 ⟨he, vv4, hw, hf⟩
  subst he
  have L5 : Hid (BkS B q p3 w v5 vv4 (((((zs ++ numB (l1 : Int)) ++ tysB x.env) ++ (bytesV x.argk x.argn x.argf ++ bytesV x.resk x.resn x.resf)) ++ numB (l4 : Int)) ++ tysB x.locs) x a1 l1 c1 a2 l2 c2 a3 l3 c3 a4 l4 c4 a5 l5 c5) := L4.out.go hw hf hq
  clear C4 hw hf L4 y0 y1 y2 y3 y4 y5 y6 y7 y8
  obtain ⟨⟨y0, y1, y2, y3, y4, y5, y6, y7, y8⟩, -⟩ := blkBlock L5.out.box
  simp only []
  have C5 : Hid _ := num1T B q _ _ ((l5 : Nat) : Int) v5 L5.out.wr (by (try simp only [List.length_append]); omega)
  go_wp2_with fail
  refine Calls.mono C5.out ?_
  rintro e v6 ⟨he, vv5, hw, hf⟩
  subst he
  have L6 : Hid (BkS B q p3 w v6 vv5 ((((((zs ++ numB (l1 : Int)) ++ tysB x.env) ++ (bytesV x.argk x.argn x.argf ++ bytesV x.resk x.resn x.resf)) ++ numB (l4 : Int)) ++ tysB x.locs) ++ numB (l5 : Int)) x a1 l1 c1 a2 l2 c2 a3 l3 c3 a4 l4 c4 a5 l5 c5) := L5.out.go hw hf hq
  clear C5 hw hf L5 y0 y1 y2 y3 y4 y5 y6 y7 y8
  obtain ⟨⟨y0, y1, y2, y3, y4, y5, y6, y7, y8⟩, -⟩ := blkBlock L6.out.box
  simp only []
  obtain ⟨zz, hzz⟩ : ∃ zz, zz = ((((((zs ++ numB (l1 : Int)) ++ tysB x.env) ++ (bytesV x.argk x.argn x.argf ++ bytesV x.resk x.resn x.resf)) ++ numB (l4 : Int)) ++ tysB x.locs) ++ numB (l5 : Int)) := ⟨_, rfl⟩
  have HZZ : Hid (zz ++ codeB x.code = zs ++ blockB x) := by show _ = _; rw [hzz, HBB.out]; simp only [List.append_assoc]
  have hzl : zz.length + 100 * l5 + 1000 ≤ 90000000 := by rw [hzz]; simp only [List.length_append]; omega
  have L9 : Hid (BkS B q p3 w v6 vv5 zz x a1 l1 c1 a2 l2 c2 a3 l3 c3 a4 l4 c4 a5 l5 c5) := by rw [hzz]; exact L6.out
  clear L6 HBB hzz hs1 hs2 hs3 hs4 hs5 hnA hnB hnC
  generalize v6 = v9 at *
  generalize vv5 = vv9 at *
  obtain ⟨b, ob, rfl, hin0⟩ : ∃ b ob, a5 = some ⟨b, ob, none⟩ ∧ InIns W0 W0 x.code b ob := by
    rcases H0.out.1.2.2.2.2.2.2 with h | h
    · omega
    · exact h
  have IN : Hid (InIns W0 W0 x.code b ob) := hin0
  clear hin0
  go_wp2
  go_loopw [42] (fun i wr => ∃ (j : Nat) (pre R : List RIns) (v1 : Value), j ≤ l5 ∧ i = .int .i64 j ∧ pre.length = j ∧ R.length + j = l5 ∧ Hid (WrS B q wr v1 (zz ++ codeB pre) ∧ FrQ B q w wr ∧ pre ++ R = x.code ∧ InIns W0 W0 R b (ob + j * 5))) (fun i _ => l5 - (intOf i).toNat)
  case atStart => exact ⟨0, [], x.code, vv9, Nat.zero_le _, rfl, rfl, by omega, by simpa [codeB] using L9.out.wr, L9.out.fr, rfl, by simpa using IN.out⟩
  case round =>
    clear L9
    obtain ⟨j, pre, R, v1, hj, rfl, hpl, hRl, HQ⟩ := hrel
    by_cases hlt : j < l5
    · obtain ⟨y, R', rfl⟩ : ∃ x R', R = x :: R' := by
        cases R with
        | nil => simp at hRl; omega
        | cons x R' => exact ⟨x, R', rfl⟩
      obtain ⟨hW, hF, hcs, ⟨⟨e1, f1, g1, e2, f2, g2, ⟨k0, k1, k2, k3, k4⟩, hd⟩, hR2⟩⟩ := HQ.out
      rw [show ob + j * 5 + 5 = ob + (j + 1) * 5 by omega] at hR2
      simp only [List.length_cons] at hRl
      have cl := cle_below (BLW.out _ hF)
      have k0 := cl _ _ k0
      have k1 := cl _ _ k1
      have k2 := cl _ _ k2
      have k3 := cl _ _ k3
      have k4 := cl _ _ k4
      have hy : insV y = true := by
        have := HALL.out
        rw [← hcs] at this
        simp only [List.any_append, List.any_cons, Bool.or_eq_false_iff, Bool.not_eq_false'] at this
        exact this.2.1
      have hpre : (pre.any fun x => !insV x) = false := by
        have := HALL.out
        rw [← hcs] at this
        simp only [List.any_append, Bool.or_eq_false_iff] at this
        exact this.1
      have hcl := codeB_len pre hpre
      have ga := World.grownBy_alloc wr (.cells #[.int .i64 y.op, .int .i64 y.a, .int .i64 y.b, .slice e1 f1 g1, .slice e2 f2 g2] 65) none
      have CC : Hid _ := insWT B q v1 (zz ++ codeB pre) y e1 f1 g1 e2 f2 g2 (wr.alloc (.cells #[.int .i64 y.op, .int .i64 y.a, .int .i64 y.b, .slice e1 f1 g1, .slice e2 f2 g2] 65)) (hW.grown ga) (fun u hu => by
        have bl := BLW.out u (hF.trans ((FrQ.grown ga hW.size).trans hu))
        exact ⟨hd.le (cle_below bl), H0.out.2.below bl⟩) hy (by simp only [List.length_append]; omega)
      obtain ⟨⟨z0, z1, z2, z3, z4⟩, -⟩ := blkIns (heap_alloc_new wr (.cells #[.int .i64 y.op, .int .i64 y.a, .int .i64 y.b, .slice e1 f1 g1, .slice e2 f2 g2] 65))
      have FX : Hid (FrQ B q w (wr.alloc (.cells #[.int .i64 y.op, .int .i64 y.a, .int .i64 y.b, .slice e1 f1 g1, .slice e2 f2 g2] 65)) ∧ (pre ++ [y]) ++ R' = x.code ∧ InIns W0 W0 R' b (ob + (j + 1) * 5) ∧ (zz ++ codeB pre) ++ insB y = zz ++ codeB (pre ++ [y])) := ⟨hF.trans (FrQ.grown ga hW.size), by rw [List.append_assoc]; exact hcs, hR2, by rw [codeB_app]; simp [codeB, List.append_assoc]⟩
      clear hW hF hcs hd hR2 cl ga HQ IN hpre hcl hy
      go_wp2_with fail
      refine Calls.mono CC.out ?_
      rintro e u ⟨he, v2, hw, hf⟩
      subst he
      have FY : Hid (WrS B q u v2 (zz ++ codeB (pre ++ [y])) ∧ FrQ B q w u) := ⟨by rw [← FX.out.2.2.2]; exact hw, FX.out.1.trans hf⟩
      clear CC hw hf k0 k1 k2 k3 k4 z0 z1 z2 z3 z4
      simp only []
      go_wp2
      go_roundw
      case rel => exact ⟨j + 1, pre ++ [y], R', v2, by omega, by go_num, by simp [hpl], by omega, FY.out.1, FY.out.2, FX.out.2.1, FX.out.2.2.1⟩
      case measure => simp [intOf]; omega
    · obtain rfl : j = l5 := by omega
      obtain rfl : R = [] := List.eq_nil_of_length_eq_zero (by omega)
      obtain ⟨hW, hF, hcs, -⟩ := HQ.out
      rw [List.append_nil] at hcs
      have FQ : Hid (WrS B q wr v1 (zs ++ blockB x) ∧ FrQ B q w wr) := ⟨by rw [← HZZ.out, ← hcs]; exact hW, hF⟩
      clear hW hF hcs HQ
      go_wp2
      (try simp only [Exit.inBlock, Exit.then])
      refine bodyPost_end (results_noneQ (P := Tryz.prog) Tryz.results60 _ _) rfl ?_
      first | exact ⟨rfl, v1, FQ.out.1, FQ.out.2⟩ | exact ⟨rfl, ⟨v1, FQ.out.1⟩, FQ.out.2⟩

end Go.Proofs.YtpdkgmagjhibkaaGreatDoor.By

namespace Go.Proofs.YtpdkgmagjhibkaaGreatDoor.By
open Go.RowKit
set_option linter.unusedVariables false
set_option linter.unusedSimpArgs false

set_option maxHeartbeats 1000000 in
theorem stands1T (x : RBlock) (a1 : Option Addr) (l1 c1 : Nat) (a2 : Option Addr) (l2 c2 : Nat) (a3 : Option Addr) (l3 c3 : Nat) (a4 : Option Addr) (l4 c4 : Nat) (a5 : Option Addr) (l5 c5 : Nat) (q : Nat) (av : Option Addr) (M cv : Nat) (w : World) (h : RdBlock w x a1 l1 a2 l2 a3 l3 a4 l4 a5 l5) (hC : OpsIn w ∧ w.cell? ⟨q, 0, none⟩ = some (.slice av M cv)) (hM : M ≤ 4194304) :
    Calls Tryz.prog 56 #[.agg #[.slice a1 l1 c1, .int .i64 x.argk, .int .i64 x.argn, .slice a2 l2 c2, .int .i64 x.resk, .int .i64 x.resn, .slice a3 l3 c3, .slice a4 l4 c4, .slice a5 l5 c5], .pointer (some ⟨q, 0, none⟩)] w fun e u => e = .returned (.bool (!blockV M x)) ∧ w.grownBy u none := by
  have g0 := World.grownBy_alloc w (.cells #[.slice a1 l1 c1, .int .i64 x.argk, .int .i64 x.argn, .slice a2 l2 c2, .int .i64 x.resk, .int .i64 x.resn, .slice a3 l3 c3, .slice a4 l4 c4, .slice a5 l5 c5] 63) none
  have b0 := heap_alloc_new w (.cells #[.slice a1 l1 c1, .int .i64 x.argk, .int .i64 x.argn, .slice a2 l2 c2, .int .i64 x.resk, .int .i64 x.resn, .slice a3 l3 c3, .slice a4 l4 c4, .slice a5 l5 c5] 63)
  have C0 : Hid _ := blockOkT x a1 l1 c1 a2 l2 c2 a3 l3 c3 a4 l4 c4 a5 l5 c5 M (w.alloc (.cells #[.slice a1 l1 c1, .int .i64 x.argk, .int .i64 x.argn, .slice a2 l2 c2, .int .i64 x.resk, .int .i64 x.resn, .slice a3 l3 c3, .slice a4 l4 c4, .slice a5 l5 c5] 63)) (h.none g0) (hC.1.none g0) hM
  have G0 : Hid _ := g0
  have k0 := g0.cell hC.2 (by simp)
  obtain ⟨⟨y0, y1, y2, y3, y4, y5, y6, y7, y8⟩, -⟩ := blkBlock b0
  clear h hC g0 b0
  go_enter Tryz.func56, Tryz.ntmps56
  go_wp2_with fail
  refine Calls.mono C0.out ?_
  rintro e u ⟨he, hg⟩
  subst he
  have G1 : Hid (w.grownBy u none) := grown_trans G0.out hg
  clear C0 hg G0 y0 y1 y2 y3 y4 y5 y6 y7 y8 k0
  simp only []
  go_wp2
  go_ret
  exact ⟨rfl, G1.out⟩

set_option maxRecDepth 4000 in
set_option maxHeartbeats 2000000 in
theorem indexKk (xs : List RBlock) (a : Option Addr) (l c : Nat) (q : Nat) (av : Option Addr) (M cv : Nat) (w : World) (h : SlBlock w a l xs) (hC : OpsIn w ∧ w.cell? ⟨q, 0, none⟩ = some (.slice av M cv) ∧ M ≤ 4194304) :
    Calls Tryz.prog 86 #[.slice a l c, .func (.func 56) #[] #[.pointer (some ⟨q, 0, none⟩)]] w fun e u => (∃ r : Int, e = .returned (.int .i64 r) ∧ AtP (xs.any fun x => !blockV M x) r) ∧ w.grownBy u none := by
  have hl := h.2.1
  have hfl := h.1
  rcases h.cases with ⟨rfl, rfl⟩ | ⟨b, o, rfl, hin, hpos⟩
  · go_enter Tryz.func86, Tryz.ntmps86
    go_wp2
    refine wp_loop_rounds 1 ?_
    rw [rounds_succ]
    go_wp2
    go_ret
    exact ⟨⟨-1, rfl, by unfold AtP; exact rfl⟩, World.grownBy.refl _ _⟩
  have IN : Hid (InBlock w w xs b o) := hin
  have HC : Hid (OpsIn w ∧ w.cell? ⟨q, 0, none⟩ = some (.slice av M cv) ∧ M ≤ 4194304) := hC
  clear hin h hC
  go_enter Tryz.func86, Tryz.ntmps86
  go_wp2
  go_loopw [8] (fun i wr => ∃ (j : Nat) (R : List RBlock), j ≤ l ∧ i = .int .i64 j ∧ R.length + j = l ∧ Hid (w.grownBy wr none ∧ InBlock w w R b (o + j * 9) ∧ (xs.any fun x => !blockV M x) = R.any fun x => !blockV M x)) (fun i _ => l - (intOf i).toNat)
  case atStart => exact ⟨0, xs, Nat.zero_le _, rfl, by omega, World.grownBy.refl _ _, by simpa using IN.out, rfl⟩
  case round =>
    obtain ⟨j, R, hj, rfl, hRl, HR⟩ := hrel
    by_cases hlt : j < l
    · obtain ⟨x, R', rfl⟩ : ∃ x R', R = x :: R' := by
        cases R with
        | nil => simp at hRl; omega
        | cons x R' => exact ⟨x, R', rfl⟩
      obtain ⟨hg, ⟨⟨a1, l1, c1, a2, l2, c2, a3, l3, c3, a4, l4, c4, a5, l5, c5, ⟨k0, k1, k2, k3, k4, k5, k6, k7, k8⟩, hd⟩, hR2⟩, hv⟩ := HR.out
      rw [show o + j * 9 + 9 = o + (j + 1) * 9 by omega] at hR2
      simp only [List.any_cons] at hv
      simp only [List.length_cons] at hRl
      have k0 := hg.cell k0 (by simp)
      have k1 := hg.cell k1 (by simp)
      have k2 := hg.cell k2 (by simp)
      have k3 := hg.cell k3 (by simp)
      have k4 := hg.cell k4 (by simp)
      have k5 := hg.cell k5 (by simp)
      have k6 := hg.cell k6 (by simp)
      have k7 := hg.cell k7 (by simp)
      have k8 := hg.cell k8 (by simp)
      have CC : Hid _ := stands1T x a1 l1 c1 a2 l2 c2 a3 l3 c3 a4 l4 c4 a5 l5 c5 q av M cv wr (hd.none hg) ⟨HC.out.1.none hg, hg.cell HC.out.2.1 (by simp)⟩ HC.out.2.2
      have FX : Hid (w.grownBy wr none ∧ InBlock w w R' b (o + (j + 1) * 9) ∧ (xs.any fun x => !blockV M x) = ((!blockV M x) || R'.any fun x => !blockV M x)) := ⟨hg, hR2, hv⟩
      clear hg hv hd hR2 HR IN
      go_wp2_with fail
      refine Calls.mono CC.out ?_
      rintro e v ⟨he, hgv⟩
      subst he
      have FY : Hid (w.grownBy v none) := grown_trans FX.out.1 hgv
      clear CC hgv k0 k1 k2 k3 k4 k5 k6 k7 k8
      simp only []
      cases hq : (!blockV M x) with
      | true =>
        have E2 : Hid ((xs.any fun x => !blockV M x) = true) := by show _ = _; rw [FX.out.2.2, hq]; rfl
        clear hq
        go_wp2
        go_ret
        exact ⟨⟨(j : Int), rfl, by unfold AtP; rw [E2.out]; show 0 ≤ (j : Int); omega⟩, FY.out⟩
      | false =>
        have E2 : Hid ((xs.any fun x => !blockV M x) = R'.any fun x => !blockV M x) := by show _ = _; rw [FX.out.2.2, hq]; rfl
        clear hq
        go_wp2
        go_roundw
        case rel => exact ⟨j + 1, R', by omega, by go_num, by omega, FY.out, FX.out.2.1, E2.out⟩
        case measure => simp [intOf]; omega
    · obtain rfl : j = l := by omega
      obtain rfl : R = [] := List.eq_nil_of_length_eq_zero (by omega)
      have E2 : Hid ((xs.any fun x => !blockV M x) = false ∧ w.grownBy wr none) := ⟨HR.out.2.2, HR.out.1⟩
      clear HR IN
      go_wp2
      go_ret
      exact ⟨⟨-1, rfl, by unfold AtP; rw [E2.out.1, if_neg (by simp)]⟩, E2.out.2⟩

set_option maxHeartbeats 400000 in
theorem containsKk (xs : List RBlock) (a : Option Addr) (l c : Nat) (q : Nat) (av : Option Addr) (M cv : Nat) (w : World) (h : SlBlock w a l xs) (hC : OpsIn w ∧ w.cell? ⟨q, 0, none⟩ = some (.slice av M cv) ∧ M ≤ 4194304) :
    Calls Tryz.prog 55 #[.slice a l c, .func (.func 56) #[] #[.pointer (some ⟨q, 0, none⟩)]] w fun e u => e = .returned (.bool (xs.any fun x => !blockV M x)) ∧ w.grownBy u none := by
  have CC : Hid _ := indexKk xs a l c q av M cv w h hC
  clear h hC
  go_enter Tryz.func55, Tryz.ntmps55
  go_wp2_with fail
  refine Calls.mono CC.out ?_
  rintro e u ⟨⟨r, rfl, hr⟩, hg⟩
  have G : Hid (w.grownBy u none) := hg
  clear hg CC
  unfold AtP at hr
  simp only []
  cases hb : (xs.any fun x => !blockV M x) with
  | true =>
    rw [hb, if_pos rfl] at hr
    go_wp2
    go_ret
    refine ⟨?_, G.out⟩
    rw [hb]
    first | rfl | (simp; done) | (simp; omega)
  | false =>
    rw [hb, if_neg (by simp)] at hr
    subst hr
    go_wp2
    go_ret
    refine ⟨?_, G.out⟩
    rw [hb]
    first | rfl | (simp; done)

def standsV (x : RProg) : Bool := decide (1 ≤ x.blks.length) && decide (x.blks.length ≤ 150) && (laysV x.lays && capsV x.caps && !x.blks.any fun b => !blockV x.lays.length b)

set_option maxRecDepth 8000 in
set_option maxHeartbeats 4000000 in
theorem programStandsT (x : RProg) (a1 : Option Addr) (l1 c1 : Nat) (a2 : Option Addr) (l2 c2 : Nat) (a3 : Option Addr) (l3 c3 : Nat) (w : World) (h : RdProg w x a1 l1 a2 l2 a3 l3) (hF : OpsIn w) (hM : l1 ≤ 4194304) :
    Calls Tryz.prog 32 #[.agg #[.slice a1 l1 c1, .slice a2 l2 c2, .slice a3 l3 c3]] w fun e u => e = .returned (.bool (standsV x)) ∧ w.grownBy u none := by
  have g0 := World.grownBy_alloc w (.cells #[.slice a1 l1 c1, .slice a2 l2 c2, .slice a3 l3 c3] 32) none
  have b0 := heap_alloc_new w (.cells #[.slice a1 l1 c1, .slice a2 l2 c2, .slice a3 l3 c3] 32)
  have HS : Hid (∀ u, w.grownBy u none → RdProg u x a1 l1 a2 l2 a3 l3 ∧ OpsIn u) := fun u hu => ⟨h.none hu, hF.none hu⟩
  have L0 : Hid (w.grownBy _ none ∧ _ = some (Obj.cells #[.slice a1 l1 c1, .slice a2 l2 c2, .slice a3 l3 c3] 32)) := ⟨g0, b0⟩
  have e1 : x.lays.length = l1 := h.1.1
  have e2 : x.blks.length = l2 := h.2.1.1
  have m1 := h.1.2.1
  have m2 := h.2.1.2.1
  have m3 := h.2.2.2
  have HV : Hid (standsV x = (decide (1 ≤ l2) && decide (l2 ≤ 150) && (laysV x.lays && capsV x.caps && !x.blks.any fun b => !blockV l1 b))) := by show _ = _; unfold standsV; rw [e1, e2]
  obtain ⟨⟨y0, y1, y2⟩, -⟩ := blkProg b0
  clear h hF g0 b0 e1 e2
  go_enter Tryz.func32, Tryz.ntmps32
  go_upto_region 1 with fail
  generalize w.alloc (.cells #[.slice a1 l1 c1, .slice a2 l2 c2, .slice a3 l3 c3] 32) = w0 at *
  generalize w.heap.size = p0 at *
  by_cases q1 : l2 < 1
  · have q1' : (l2 : Int) < 1 := by omega
    have E : Hid (standsV x = false) := by
      show _ = _
      have : decide (1 ≤ l2) = false := by simp; omega
      rw [HV.out, this]; simp
    go_wp2
    go_ret
    exact ⟨by rw [E.out]; rfl, L0.out.1⟩
  have q1' : ¬ (l2 : Int) < 1 := by omega
  have q1t : decide (1 ≤ l2) = true := by simp; omega
  by_cases q2 : 150 < l2
  · have q2' : (l2 : Int) > 150 := by omega
    have E : Hid (standsV x = false) := by
      show _ = _
      have : decide (l2 ≤ 150) = false := by simp; omega
      rw [HV.out, this]; simp
    go_wp2
    go_ret
    exact ⟨by rw [E.out]; rfl, L0.out.1⟩
  have q2' : ¬ (l2 : Int) > 150 := by omega
  have q2t : decide (l2 ≤ 150) = true := by simp; omega
  have HW : Hid (standsV x = (laysV x.lays && capsV x.caps && !x.blks.any fun b => !blockV l1 b)) := by show _ = _; rw [HV.out, q1t, q2t]; rfl
  clear HV q1t q2t
  have C0 : Hid _ := layoutsOkT x.lays a1 l1 c1 w0 (HS.out _ L0.out.1).1.1
  go_wp2_with fail
  refine Calls.mono C0.out ?_
  rintro e v0 ⟨he, hg⟩
  subst he
  have L1 : Hid (w.grownBy v0 none ∧ v0.heap[p0]? = some (Obj.cells #[.slice a1 l1 c1, .slice a2 l2 c2, .slice a3 l3 c3] 32)) := ⟨grown_trans L0.out.1 hg, (hg.block _ (lt_of_block L0.out.2) (by simp)).trans L0.out.2⟩
  clear C0 hg L0 y0 y1 y2
  obtain ⟨⟨y0, y1, y2⟩, -⟩ := blkProg L1.out.2
  simp only []
  cases hq0 : laysV x.lays with
  | false =>
    go_wp2
    go_ret
    exact ⟨by rw [HW.out]; simp [hq0], L1.out.1⟩
  | true =>
    have C1 : Hid _ := capsOkT x.caps a3 l3 c3 v0 (HS.out _ L1.out.1).1.2.2
    go_wp2_with fail
    refine Calls.mono C1.out ?_
    rintro e v1 ⟨he, hg⟩
    subst he
    have L2 : Hid (w.grownBy v1 none ∧ v1.heap[p0]? = some (Obj.cells #[.slice a1 l1 c1, .slice a2 l2 c2, .slice a3 l3 c3] 32)) := ⟨grown_trans L1.out.1 hg, (hg.block _ (lt_of_block L1.out.2) (by simp)).trans L1.out.2⟩
    clear C1 hg L1 y0 y1 y2
    obtain ⟨⟨y0, y1, y2⟩, -⟩ := blkProg L2.out.2
    simp only []
    cases hq1 : capsV x.caps with
    | false =>
      go_wp2
      go_ret
      exact ⟨by rw [HW.out]; simp [hq0, hq1], L2.out.1⟩
    | true =>
      have C2 : Hid _ := containsKk x.blks a2 l2 c2 p0 a1 l1 c1 v1 (HS.out _ L2.out.1).1.2.1 ⟨(HS.out _ L2.out.1).2, (blkProg L2.out.2).1.1, hM⟩
      go_wp2_with fail
      refine Calls.mono C2.out ?_
      rintro e v2 ⟨he, hg⟩
      subst he
      have L3 : Hid (w.grownBy v2 none ∧ v2.heap[p0]? = some (Obj.cells #[.slice a1 l1 c1, .slice a2 l2 c2, .slice a3 l3 c3] 32)) := ⟨grown_trans L2.out.1 hg, (hg.block _ (lt_of_block L2.out.2) (by simp)).trans L2.out.2⟩
      clear C2 hg L2 y0 y1 y2
      obtain ⟨⟨y0, y1, y2⟩, -⟩ := blkProg L3.out.2
      simp only []
      go_wp2
      go_ret
      exact ⟨by rw [HW.out, hq0, hq1]; rfl, L3.out.1⟩

end Go.Proofs.YtpdkgmagjhibkaaGreatDoor.By
