/-
  Whole numbers: impl.wholeNumber. No statement is proved here.
-/
import Derived.Test.YtaecnhmegdeicaaDoorXLa
import Derived.Test.YtaecnhmegdeicaaDoorXX2
import Derived.Test.YtaecnhmegdeicaaDoorEK
import Derived.Test.YtaecnhmegdeicaaDoorShelfT
import Derived.Lib.AtoiTie
namespace Go.Proofs.YtaecnhmegdeicaaDoor.By
open Go.RowKit
set_option linter.unusedVariables false
set_option linter.unusedSimpArgs false

theorem decFrom_snoc : ∀ (l : List UInt8) (acc : Nat) (b : UInt8), Lib.decFrom acc (l ++ [b]) = (Lib.decFrom acc l).bind fun n => (Lib.digitVal b).map fun d => n * 10 + d
  | [], acc, b => by simp only [List.nil_append, Lib.decFrom]; cases Lib.digitVal b <;> rfl
  | x :: r, acc, b => by
    simp only [List.cons_append, Lib.decFrom]
    cases Lib.digitVal x with
    | none => rfl
    | some d => exact decFrom_snoc r _ b
theorem digitVal_dg {n : Nat} (h : n < 10) : Lib.digitVal (UInt8.ofNat (48 + n)) = some n := by
  have e : (UInt8.ofNat (48 + n)).toNat = 48 + n := by rw [UInt8.toNat_ofNat']; omega
  unfold Lib.digitVal
  rw [e, if_pos (by omega)]
  congr 1; omega
theorem decFrom_dec (n : Nat) : Lib.decFrom 0 (Lib.decDigits n) = some n := by
  induction n using Nat.strongRecOn with
  | ind n ih =>
    rw [Lib.decDigits]
    split
    · next h => simp only [Lib.decFrom, digitVal_dg h]; congr 1; omega
    · next h =>
      rw [decFrom_snoc, ih (n / 10) (by omega)]
      have := digitVal_dg (n := n % 10) (by omega)
      simp only [Option.bind_some, this, Option.map_some]
      congr 1; omega
theorem decDigits_ne (n : Nat) : Lib.decDigits n ≠ [] := by
  rw [Lib.decDigits]
  split <;> simp
theorem decNat_dec (n : Nat) : Lib.decNat (Lib.decDigits n) = some n := by
  unfold Lib.decNat
  rw [if_neg (by simp [decDigits_ne]), decFrom_dec]
theorem decDigits_head : ∀ (n : Nat) (b : UInt8) (r : List UInt8), Lib.decDigits n = b :: r → 48 ≤ b.toNat := by
  intro n
  induction n using Nat.strongRecOn with
  | ind n ih =>
    intro b r h
    rw [Lib.decDigits] at h
    split at h
    · next h9 => cases h; rw [UInt8.toNat_ofNat']; omega
    · next h9 =>
      cases hd : Lib.decDigits (n / 10) with
      | nil => exact absurd hd (decDigits_ne _)
      | cons b2 r2 =>
        rw [hd] at h
        cases h
        exact ih (n / 10) (by omega) _ _ hd
theorem atoi_itoa (n : Int) : Lib.atoi (Lib.itoa n) = some n := by
  unfold Lib.itoa
  split
  · next h =>
    have h45 : ((45 : UInt8) == 45) = true := rfl
    simp only [Lib.atoi, h45, if_true, decNat_dec, Option.map_some]
    congr 1; omega
  · next h =>
    cases hd : Lib.decDigits n.toNat with
    | nil => exact absurd hd (decDigits_ne _)
    | cons b r =>
      have hb := decDigits_head _ _ _ hd
      have h1 : ¬ (b == 45) = true := fun e => by rw [beq_iff_eq] at e; rw [e] at hb; exact absurd hb (by decide)
      have h2 : ¬ (b == 43) = true := fun e => by rw [beq_iff_eq] at e; rw [e] at hb; exact absurd hb (by decide)
      simp only [Lib.atoi, if_neg h1, if_neg h2]
      rw [← hd, decNat_dec]
      simp only [Option.map_some]
      congr 1; omega
theorem itoa_short (n : Int) (h : wholeV n = true) : (Lib.itoa n).length ≤ 18 := by
  have e := congrArg List.length (itoB_eq n)
  rw [List.length_map] at e
  rw [e]
  simp only [wholeV, Bool.and_eq_true, decide_eq_true_eq] at h
  unfold itoB
  split
  · have := dcB_len 9 n.natAbs (by omega)
    simp only [List.length_cons]; omega
  · have := dcB_len 9 n.toNat (by omega)
    omega
theorem str_itoa (n : Int) : (strOfNums (itoB n)).data.toList = Lib.itoa n := by
  rw [← itoB_eq]
  have e : (strOfNums ((Lib.itoa n).map fun b => (b.toNat : Int))).data.toList = ((Lib.itoa n).map fun b => (b.toNat : Int)).map fun z => UInt8.ofNat z.toNat := by simp [strOfNums]
  rw [e, List.map_map]
  conv => rhs; rw [← List.map_id (Lib.itoa n)]
  refine List.map_congr_left fun b _ => ?_
  simp
theorem wholeZ_atoi {zs : List Int} {m : Int} (h : wholeZ zs = some m) : Lib.atoiAll (strOfNums zs).data.toList = .ok m := by
  obtain ⟨h1, h2⟩ := (wholeZ_iff zs m).1 h
  rw [h1, str_itoa, Lib.atoiAll_short _ (itoa_short m h2), atoi_itoa]
  rfl
theorem itoa_str (n : Int) : (⟨(Lib.itoa n).toArray⟩ : ByteArray) = strOfNums (itoB n) := by
  have := str_itoa n
  rw [← this]

/-- What the functions of this stage lean on: the library's tables, its two errors. -/
structure EnvX (w : World) : Prop where
  tab : ∀ u, w.grownBy u none → Lib.TabIs Tryd.prog u "internal/strconv.uint64pow10" .u64 Lib.pow10Tab
  tu : TabU w
  e3 : ∃ ev, w.cell? ⟨3, 0, none⟩ = some ev ∧ (ev = .nilIface ∨ ∃ te pe, ev = .iface te pe)
  e4 : ∃ ev, w.cell? ⟨4, 0, none⟩ = some ev ∧ (ev = .nilIface ∨ ∃ te pe, ev = .iface te pe)
theorem EnvX.none {w u : World} (h : EnvX w) (hg : w.grownBy u none) : EnvX u :=
  ⟨fun v hv => h.tab v (grown_trans hg hv), h.tu.none hg, by obtain ⟨ev, h1, h2⟩ := h.e3; exact ⟨ev, hg.cell h1 (by simp), h2⟩, by obtain ⟨ev, h1, h2⟩ := h.e4; exact ⟨ev, hg.cell h1 (by simp), h2⟩⟩
theorem isWholeW (n : Int) (w : World) : Calls Tryd.prog 50 #[.int .i64 n] w fun e u => e = .returned (.bool (wholeV n)) ∧ w.grownBy u none :=
  (isWholeT n w).mono fun e u hh => ⟨hh.1, by rw [hh.2]; exact World.grownBy.refl _ _⟩
theorem itoaX (n : Int) (h0 : -9223372036854775808 ≤ n) (h1 : n ≤ 9223372036854775807) (w : World) (h : EnvX w) :
    Calls Tryd.prog 51 #[.int .i64 n] w fun e u => e = .returned (.string (strOfNums (itoB n))) ∧ w.grownBy u none := by
  refine (Tryd.strconv_Itoa n h0 h1 w (h.tab w (World.grownBy.refl _ _))).mono ?_
  rintro e u ⟨rfl, k, os, rfl⟩
  refine ⟨by rw [itoa_str], rfl, rfl, rfl, ?_, fun i hi _ => ?_⟩
  · show w.heap.size ≤ (w.heap ++ os).size
    simp
  · show (w.heap ++ os)[i]? = w.heap[i]?
    exact Array.getElem?_append_left hi
theorem grown_of_below {w u : World} (h : Below w.heap.size w u) : w.grownBy u none := ⟨h.os, h.tape, h.output, h.size, fun k hk _ => h.block k hk⟩
theorem grown_bytesW (w : World) (y : TypeId) (t : ByteArray) : w.grownBy (Lib.bytesWorld w y t) none :=
  ⟨rfl, rfl, rfl, by rw [Lib.bytesWorld_size]; omega, fun i hi _ => Lib.bytesWorld_at_old w y t i hi⟩
theorem atoiX (zs : List Int) (w : World) (hn : zs.length ≤ 100000) (h : EnvX w) :
    Calls Tryd.prog 49 #[.string (strOfNums zs)] w fun e u => ((∃ n : Int, e = .returned (.tuple #[.int .i64 n, .nilIface]) ∧ (-9223372036854775808 ≤ n ∧ n ≤ 9223372036854775807) ∧ ∀ m, wholeZ zs = some m → m = n) ∨ (∃ x t p, e = .returned (.tuple #[.int .i64 x, .iface t p]) ∧ wholeZ zs = none)) ∧ w.grownBy u none := by
  have hs : (strOfNums zs).size = zs.length := str_size zs
  cases ha : Lib.atoiAll (strOfNums zs).data.toList with
  | ok n =>
    refine (Tryd.strconv_Atoi_ok _ (by omega) n ha w).mono ?_
    rintro e u ⟨rfl, hu⟩
    refine ⟨.inl ⟨n, rfl, Lib.atoiAll_bounds ha, fun m hm => ?_⟩, ?_⟩
    · have := wholeZ_atoi hm
      rw [ha] at this
      injection this with this
      exact this.symm
    · rcases hu with rfl | ⟨t, rfl⟩
      · exact World.grownBy.refl _ _
      · exact grown_bytesW w _ t
  | «syntax» =>
    obtain ⟨ev, h1, h2⟩ := h.e3
    refine (Tryd.strconv_Atoi_syntax _ (by omega) ha ev w h1 h2).mono ?_
    rintro e u ⟨⟨t, p, rfl⟩, hb⟩
    refine ⟨.inr ⟨_, t, p, rfl, ?_⟩, grown_of_below hb⟩
    cases hz : wholeZ zs with
    | none => rfl
    | some m => have := wholeZ_atoi hz; rw [ha] at this; cases this
  | range =>
    obtain ⟨ev, h1, h2⟩ := h.e4
    refine (Tryd.strconv_Atoi_range _ (by omega) ha ev w h1 h2).mono ?_
    rintro e u ⟨⟨x, t, p, rfl⟩, hb⟩
    refine ⟨.inr ⟨x, t, p, rfl, ?_⟩, grown_of_below hb⟩
    cases hz : wholeZ zs with
    | none => rfl
    | some m => have := wholeZ_atoi hz; rw [ha] at this; cases this
end Go.Proofs.YtaecnhmegdeicaaDoor.By
