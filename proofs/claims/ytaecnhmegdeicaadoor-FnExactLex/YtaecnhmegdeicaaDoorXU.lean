/-
  unicode/utf8.DecodeRune at bytes that are no ASCII: how far it goes, and that what it tells is none. No statement is proved here.
-/
import Derived.Test.YtaecnhmegdeicaaDoorXB0
namespace Go.Proofs.YtaecnhmegdeicaaDoor.By
open Go.RowKit
set_option linter.unusedVariables false
set_option linter.unusedSimpArgs false

def fstV (z : Int) : Int :=
  if z < 194 then 241 else if z < 224 then 2 else if z = 224 then 19 else if z = 237 then 35 else if z < 240 then 3 else if z = 240 then 52 else if z < 244 then 4 else if z = 244 then 68 else 241
/-- The tables of the library, as their initialisers lay them; how long a text is searched in place: any number. -/
def TabU (w : World) : Prop :=
  (∃ m, w.cell? ⟨0, 0, none⟩ = some (.int .i64 m)) ∧ (∀ i : Nat, 128 ≤ i → i < 256 → w.cell? ⟨1, i, none⟩ = some (.int .u8 (fstV i))) ∧
  (w.cell? ⟨2, 0, none⟩ = some (.int .u8 128) ∧ w.cell? ⟨2, 1, none⟩ = some (.int .u8 191) ∧ w.cell? ⟨2, 2, none⟩ = some (.int .u8 160) ∧ w.cell? ⟨2, 3, none⟩ = some (.int .u8 191) ∧ w.cell? ⟨2, 4, none⟩ = some (.int .u8 128) ∧ w.cell? ⟨2, 5, none⟩ = some (.int .u8 159) ∧ w.cell? ⟨2, 6, none⟩ = some (.int .u8 144) ∧ w.cell? ⟨2, 7, none⟩ = some (.int .u8 191) ∧ w.cell? ⟨2, 8, none⟩ = some (.int .u8 128) ∧ w.cell? ⟨2, 9, none⟩ = some (.int .u8 143))
theorem TabU.none {w u : World} (h : TabU w) (hg : w.grownBy u Option.none) : TabU u := by
  obtain ⟨⟨m, h0⟩, h1, h2⟩ := h
  exact ⟨⟨m, hg.cell h0 (by simp)⟩, fun i a b => hg.cell (h1 i a b) (by simp), hg.cell h2.1 (by simp), hg.cell h2.2.1 (by simp), hg.cell h2.2.2.1 (by simp), hg.cell h2.2.2.2.1 (by simp), hg.cell h2.2.2.2.2.1 (by simp), hg.cell h2.2.2.2.2.2.1 (by simp), hg.cell h2.2.2.2.2.2.2.1 (by simp), hg.cell h2.2.2.2.2.2.2.2.1 (by simp), hg.cell h2.2.2.2.2.2.2.2.2.1 (by simp), hg.cell h2.2.2.2.2.2.2.2.2.2 (by simp)⟩

theorem or32 (x y : Int) (hx : 0 ≤ x) (hx1 : x < 2147483648) (hy : 0 ≤ y) (hy1 : y < 2147483648) : x ≤ bits BinOp.or IntKind.i32 x y ∧ y ≤ bits BinOp.or IntKind.i32 x y ∧ bits BinOp.or IntKind.i32 x y < 2147483648 := by
  obtain ⟨X, rfl⟩ := Int.eq_ofNat_of_zero_le hx
  obtain ⟨Y, rfl⟩ := Int.eq_ofNat_of_zero_le hy
  have e : bits BinOp.or IntKind.i32 (X : Int) (Y : Int) = IntKind.i32.wrap ((X ||| Y : Nat) : Int) := by
    show IntKind.i32.wrap ((BitVec.ofInt 32 (X : Int) ||| BitVec.ofInt 32 (Y : Int)).toNat : Int) = _
    rw [BitVec.toNat_or, BitVec.ofInt_natCast, BitVec.ofInt_natCast, BitVec.toNat_ofNat, BitVec.toNat_ofNat, Nat.mod_eq_of_lt (by omega), Nat.mod_eq_of_lt (by omega)]
  have h1 : X ≤ X ||| Y := Nat.left_le_or
  have h2 : Y ≤ X ||| Y := Nat.right_le_or
  have h3 : X ||| Y < 2 ^ 31 := Nat.or_lt_two_pow (by omega) (by omega)
  rw [e, IntKind.wrap_i32]
  omega
theorem fin_byt {P : Int → Prop} (h : ∀ z : Fin 256, P (z.val : Int)) {z : Int} (h0 : 0 ≤ z) (h1 : z ≤ 255) : P z := by
  have := h ⟨z.toNat, by omega⟩
  rwa [show ((⟨z.toNat, by omega⟩ : Fin 256).val : Int) = z by show ((z.toNat : Nat) : Int) = z; omega] at this
theorem and31 {z : Int} (h0 : 0 ≤ z) (h1 : z ≤ 255) : (194 ≤ z → z < 224 → 2 ≤ bits BinOp.and IntKind.u8 z 31) ∧ 0 ≤ bits BinOp.and IntKind.u8 z 31 ∧ bits BinOp.and IntKind.u8 z 31 ≤ 31 :=
  fin_byt (P := fun z => (194 ≤ z → z < 224 → 2 ≤ bits BinOp.and IntKind.u8 z 31) ∧ 0 ≤ bits BinOp.and IntKind.u8 z 31 ∧ bits BinOp.and IntKind.u8 z 31 ≤ 31) (by decide +kernel) h0 h1
theorem and63 {z : Int} (h0 : 0 ≤ z) (h1 : z ≤ 255) : (160 ≤ z → z ≤ 191 → 32 ≤ bits BinOp.and IntKind.u8 z 63) ∧ (144 ≤ z → z ≤ 191 → 16 ≤ bits BinOp.and IntKind.u8 z 63) ∧ 0 ≤ bits BinOp.and IntKind.u8 z 63 ∧ bits BinOp.and IntKind.u8 z 63 ≤ 63 :=
  fin_byt (P := fun z => (160 ≤ z → z ≤ 191 → 32 ≤ bits BinOp.and IntKind.u8 z 63) ∧ (144 ≤ z → z ≤ 191 → 16 ≤ bits BinOp.and IntKind.u8 z 63) ∧ 0 ≤ bits BinOp.and IntKind.u8 z 63 ∧ bits BinOp.and IntKind.u8 z 63 ≤ 63) (by decide +kernel) h0 h1
theorem and15 {z : Int} (h0 : 0 ≤ z) (h1 : z ≤ 255) : (225 ≤ z → z < 240 → 1 ≤ bits BinOp.and IntKind.u8 z 15) ∧ 0 ≤ bits BinOp.and IntKind.u8 z 15 ∧ bits BinOp.and IntKind.u8 z 15 ≤ 15 :=
  fin_byt (P := fun z => (225 ≤ z → z < 240 → 1 ≤ bits BinOp.and IntKind.u8 z 15) ∧ 0 ≤ bits BinOp.and IntKind.u8 z 15 ∧ bits BinOp.and IntKind.u8 z 15 ≤ 15) (by decide +kernel) h0 h1
theorem and7 {z : Int} (h0 : 0 ≤ z) (h1 : z ≤ 255) : (241 ≤ z → z ≤ 244 → 1 ≤ bits BinOp.and IntKind.u8 z 7) ∧ 0 ≤ bits BinOp.and IntKind.u8 z 7 ∧ bits BinOp.and IntKind.u8 z 7 ≤ 7 :=
  fin_byt (P := fun z => (241 ≤ z → z ≤ 244 → 1 ≤ bits BinOp.and IntKind.u8 z 7) ∧ 0 ≤ bits BinOp.and IntKind.u8 z 7 ∧ bits BinOp.and IntKind.u8 z 7 ≤ 7) (by decide +kernel) h0 h1

/-- What a piece that begins with no ASCII is read as: so many bytes, none of them ASCII, and a rune that is none. -/
def RuneK (zs : List Int) (r k : Int) : Prop := ∃ n : Nat, k = n ∧ 1 ≤ n ∧ n ≤ zs.length ∧ (∀ i, i < n → 128 ≤ zs.getD i 0) ∧ (128 ≤ r ∧ r ≤ 2147483647) ∧ (n ≤ 4 ∧ (n = 1 → r = 65533) ∧ (n = 2 → r < 2048) ∧ (n = 3 → r < 65536))
theorem runeK1 {zs : List Int} (h : 1 ≤ zs.length) (h0 : 128 ≤ zs.getD 0 0) : RuneK zs 65533 1 := by
  refine ⟨1, rfl, by omega, h, fun i hi => ?_, by omega, by omega⟩
  obtain rfl : i = 0 := by omega
  exact h0
def drOut (w : World) (zs : List Int) (e : Ending) (u : World) : Prop := (∃ r k : Int, e = .returned (.tuple #[.int .i32 r, .int .i64 k]) ∧ RuneK zs r k) ∧ w.grownBy u none

set_option maxRecDepth 8000 in
set_option maxHeartbeats 4000000 in
theorem slow_xx (b o : Nat) (l c : Nat) (zs : List Int) (w : World) (hz0 : zs.length = l) (hl : 1 ≤ l) (z : Int) (hz : zs.getD 0 0 = z) (h0 : 128 ≤ z) (h1 : z ≤ 255) (hc : w.cell? ⟨b, o, none⟩ = some (.int .u8 z)) (n : Nat) (hn : z = n) (hT : w.cell? ⟨1, n, none⟩ = some (.int .u8 241)) :
    Calls Tryd.prog 48 #[.slice (some ⟨b, o, none⟩) l c] w fun e u => drOut w zs e u := by
  have HZ : Hid (RuneK zs 65533 1) := runeK1 (by omega) (by omega)
  have hE : Hid (bits BinOp.or IntKind.i32 (bits BinOp.andNot IntKind.i32 z (wrap32 517543559168 / 2147483648)) (bits BinOp.and IntKind.i32 65533 (wrap32 517543559168 / 2147483648)) = 65533) := fin_byt (P := fun z => bits BinOp.or IntKind.i32 (bits BinOp.andNot IntKind.i32 z (wrap32 517543559168 / 2147483648)) (bits BinOp.and IntKind.i32 65533 (wrap32 517543559168 / 2147483648)) = 65533) (by decide +kernel) (by omega) h1
  clear hz0 hz
  subst hn
  go_enter Tryd.func48, Tryd.ntmps48
  go_wp2
  go_ret2
  refine ⟨⟨65533, 1, ?_, HZ.out⟩, World.grownBy.refl _ _⟩
  show Ending.returned (Value.tuple #[.int .i32 (bits BinOp.or IntKind.i32 (bits BinOp.andNot IntKind.i32 (n : Int) (wrap32 517543559168 / 2147483648)) (bits BinOp.and IntKind.i32 65533 (wrap32 517543559168 / 2147483648))), .int .i64 1]) = _
  rw [hE.out]
end Go.Proofs.YtaecnhmegdeicaaDoor.By
