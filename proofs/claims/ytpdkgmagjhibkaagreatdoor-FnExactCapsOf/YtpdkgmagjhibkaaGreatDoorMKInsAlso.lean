/-
  Several texts in one (MKTys, MKLayout, MKIns). No statement is proved here.
-/
import Derived.Test.YtpdkgmagjhibkaaGreatDoorMKtAlso
import Derived.Test.YtpdkgmagjhibkaaGreatDoorSLayouts
import Derived.Test.YtpdkgmagjhibkaaGreatDoorSInss
namespace Go.Proofs.YtpdkgmagjhibkaaGreatDoor.By
open Go.RowKit
set_option linter.unusedVariables false
set_option linter.unusedSimpArgs false

/-- How Tys lies, whatever numbers it bears. -/
def ElTys (w : World) (x : F) (b off : Nat) : Prop := (∃ a l c, w.cell? ⟨b, off, none⟩ = some (.slice a l c) ∧ ShS w a l x)
def ShTys (w : World) : List F → Nat → Nat → Prop
  | [], _, _ => True
  | x :: r, b, off => ElTys w x b off ∧ ShTys w r b (off + 1)
def ShLTys (w : World) (a : Option Addr) (l : Nat) (xs : List F) : Prop := xs.length = l ∧ l ≤ 9223372036854775807 ∧ (l = 0 ∨ ∃ b o, a = some ⟨b, o, none⟩ ∧ ShTys w xs b o)
theorem ShTys.like {w u : World} (hk : CLk w u) (xs : List F) : ∀ b off, ShTys w xs b off → ShTys u xs b off := by
  induction xs with
  | nil => intro b off _; trivial
  | cons x r ih =>
    intro b off h
    obtain ⟨⟨a0, l0, c0, h0, s0⟩, hr⟩ := h
    exact ⟨⟨a0, l0, c0, hk.slice h0, s0.like hk⟩, ih _ _ hr⟩
theorem ShLTys.like {w u : World} {xs : List F} {a : Option Addr} {l : Nat} (h : ShLTys w a l xs) (hk : CLk w u) : ShLTys u a l xs := by
  obtain ⟨h1, h2, h3⟩ := h
  refine ⟨h1, h2, ?_⟩
  rcases h3 with h3 | ⟨b, o, e, h3⟩
  · exact .inl h3
  · exact .inr ⟨b, o, e, ShTys.like hk _ _ _ h3⟩
theorem InTys.sh {w : World} (xs : List F) : ∀ b off, InTys w w xs b off → ShTys w xs b off := by
  induction xs with
  | nil => intro b off _; trivial
  | cons x r ih =>
    intro b off h
    obtain ⟨⟨a1, l1, c1, k0, hd⟩, hr⟩ := h
    exact ⟨⟨a1, l1, c1, k0, SlF.sh hd⟩, ih _ _ hr⟩
theorem SlTys.sh {w : World} {xs : List F} {a : Option Addr} {l : Nat} (h : SlTys w a l xs) : ShLTys w a l xs := by
  obtain ⟨h1, h2, h3⟩ := h
  refine ⟨h1, h2, ?_⟩
  rcases h3 with h3 | ⟨b, o, e, h3⟩
  · exact .inl h3
  · exact .inr ⟨b, o, e, h3.sh⟩

set_option maxRecDepth 8000 in
set_option maxHeartbeats 4000000 in
theorem mkTys (lo hi : Nat) (xs : List F) (a : Option Addr) (l c : Nat) (k0 : Int) (w : World) (h : ShLTys (hideR w lo hi) a l xs) (hk0 : 0 ≤ k0) (hk1 : k0 + 4 * (szTyss xs : Nat) ≤ 4611686018427387904) :
    Calls Tryz.prog 61 #[.slice a l c, .int .i64 k0] w fun e u => ∃ k' : Int, e = .returned (.int .i64 k') ∧ k0 ≤ k' ∧ k' ≤ k0 + 4 * (szTyss xs : Nat) ∧ Mk lo hi w u := by
  obtain ⟨hfl, hl, hx⟩ := h
  by_cases hl0 : l = 0
  · subst hl0
    clear hx
    go_enter Tryz.func61, Tryz.ntmps61
    go_wp2
    refine wp_loop_rounds 1 ?_
    rw [rounds_succ]
    go_wp2
    go_ret
    exact ⟨k0, rfl, Int.le_refl _, by omega, Mk.refl _ _ _⟩
  obtain ⟨b, o, rfl, hin⟩ : ∃ b o, a = some ⟨b, o, none⟩ ∧ ShTys (hideR w lo hi) xs b o := by
    rcases hx with h | h
    · exact absurd h hl0
    · exact h
  have IN : Hid (ShTys (hideR w lo hi) xs b o) := hin
  clear hin hx
  go_enter Tryz.func61, Tryz.ntmps61
  go_wp2
  go_loopw [1, 5] (fun v i wr => ∃ (j : Nat) (R : List F) (kj : Int), j ≤ l ∧ i = .int .i64 j ∧ v = .int .i64 kj ∧ k0 ≤ kj ∧ kj + 4 * (szTyss R : Nat) ≤ k0 + 4 * (szTyss xs : Nat) ∧ R.length + j = l ∧ szTyss R ≤ szTyss xs ∧ Hid (ShTys (hideR wr lo hi) R b (o + j * 1) ∧ Mk lo hi w wr)) (fun _ i _ => l - (intOf i).toNat)
  case atStart => exact ⟨0, xs, k0, Nat.zero_le _, rfl, rfl, Int.le_refl _, Int.le_refl _, by omega, Nat.le_refl _, by simpa using IN.out, Mk.refl _ _ _⟩
  case round =>
    clear IN
    obtain ⟨j, R, kj, hj, rfl, rfl, hkj, hks, hRl, hRs, HR⟩ := hrel
    by_cases hlt : j < l
    · obtain ⟨x, R', rfl⟩ : ∃ x R', R = x :: R' := by
        cases R with
        | nil => simp at hRl; omega
        | cons x R' => exact ⟨x, R', rfl⟩
      simp only [List.length_cons] at hRl
      obtain ⟨hS, hM⟩ := HR.out
      simp only [szTyss] at hks hRs
      have e3 : o + j * 1 + 1 = o + (j + 1) * 1 := by omega
      have hj0 : (0 : Int) ≤ (j : Int) := by omega
      have hj1 : (j : Int) < (l : Int) := by omega
      have ST : Hid (ShTys (hideR wr lo hi) (x :: R') b (o + j * 1) ∧ Mk lo hi w wr) := ⟨hS, hM⟩
      clear hS hM HR
      obtain ⟨⟨a0, l0, c0, d0, s0⟩, hrest⟩ := ST.out.1
      simp only [Nat.mul_one] at d0
      have dv := (hideR_open d0).1
      have CC : Hid _ := mkS lo hi (x.size + 1) x a0 l0 c0 (kj) wr (by omega) s0 (by omega) (by omega)
      have S2 : Hid (ShTys (hideR wr lo hi) (x :: R') b (o + j * 1) ∧ Mk lo hi w wr) := ⟨ShTys.like (Mk.refl lo hi wr).like _ _ _ ST.out.1, ST.out.2.trans (Mk.refl lo hi wr)⟩
      clear d0 hrest ST   s0
      go_wp2_with fail
      refine Calls.mono CC.out ?_
      rintro e v0 ⟨kn0, he, hka0, hkb0, hmk⟩
      subst he
      have ST : Hid (ShTys (hideR v0 lo hi) (x :: R') b (o + j * 1) ∧ Mk lo hi w v0) := ⟨ShTys.like hmk.like _ _ _ S2.out.1, S2.out.2.trans hmk⟩
      skip
      clear CC hmk S2 dv 
      have FIN : Hid (ShTys (hideR v0 lo hi) R' b (o + (j + 1) * 1) ∧ Mk lo hi w v0) := ⟨by rw [← e3]; exact ST.out.1.2, ST.out.2⟩
      clear ST
      simp only []
      go_wp2
      go_roundw
      case rel => exact ⟨j + 1, R', kn0, by omega, by go_num, rfl, by omega, by omega, by omega, by omega, FIN.out.1, FIN.out.2⟩
      case measure => simp [intOf]; omega
    · obtain rfl : j = l := by omega
      have FW : Hid (Mk lo hi w wr) := HR.out.2
      clear HR
      go_wp2
      go_ret
      exact ⟨kj, rfl, hkj, by omega, FW.out⟩

end Go.Proofs.YtpdkgmagjhibkaaGreatDoor.By

namespace Go.Proofs.YtpdkgmagjhibkaaGreatDoor.By
open Go.RowKit
set_option linter.unusedVariables false
set_option linter.unusedSimpArgs false

/-- How Layout lies, whatever numbers it bears. -/
def ElLayout (w : World) (x : RLayout) (b off : Nat) : Prop := (∃ a l c, w.cell? ⟨b, off, none⟩ = some (.slice a l c) ∧ ShLTys w a l x.cons)
def ShLayout (w : World) : List RLayout → Nat → Nat → Prop
  | [], _, _ => True
  | x :: r, b, off => ElLayout w x b off ∧ ShLayout w r b (off + 1)
def ShLLayout (w : World) (a : Option Addr) (l : Nat) (xs : List RLayout) : Prop := xs.length = l ∧ l ≤ 9223372036854775807 ∧ (l = 0 ∨ ∃ b o, a = some ⟨b, o, none⟩ ∧ ShLayout w xs b o)
theorem ShLayout.like {w u : World} (hk : CLk w u) (xs : List RLayout) : ∀ b off, ShLayout w xs b off → ShLayout u xs b off := by
  induction xs with
  | nil => intro b off _; trivial
  | cons x r ih =>
    intro b off h
    obtain ⟨⟨a0, l0, c0, h0, s0⟩, hr⟩ := h
    exact ⟨⟨a0, l0, c0, hk.slice h0, s0.like hk⟩, ih _ _ hr⟩
theorem ShLLayout.like {w u : World} {xs : List RLayout} {a : Option Addr} {l : Nat} (h : ShLLayout w a l xs) (hk : CLk w u) : ShLLayout u a l xs := by
  obtain ⟨h1, h2, h3⟩ := h
  refine ⟨h1, h2, ?_⟩
  rcases h3 with h3 | ⟨b, o, e, h3⟩
  · exact .inl h3
  · exact .inr ⟨b, o, e, ShLayout.like hk _ _ _ h3⟩
theorem InLayout.sh {w : World} (xs : List RLayout) : ∀ b off, InLayout w w xs b off → ShLayout w xs b off := by
  induction xs with
  | nil => intro b off _; trivial
  | cons x r ih =>
    intro b off h
    obtain ⟨⟨a1, l1, c1, k0, hd⟩, hr⟩ := h
    exact ⟨⟨a1, l1, c1, k0, SlTys.sh hd⟩, ih _ _ hr⟩
theorem SlLayout.sh {w : World} {xs : List RLayout} {a : Option Addr} {l : Nat} (h : SlLayout w a l xs) : ShLLayout w a l xs := by
  obtain ⟨h1, h2, h3⟩ := h
  refine ⟨h1, h2, ?_⟩
  rcases h3 with h3 | ⟨b, o, e, h3⟩
  · exact .inl h3
  · exact .inr ⟨b, o, e, h3.sh⟩

set_option maxRecDepth 8000 in
set_option maxHeartbeats 4000000 in
theorem mkLayout (lo hi : Nat) (xs : List RLayout) (a : Option Addr) (l c : Nat) (k0 : Int) (w : World) (h : ShLLayout (hideR w lo hi) a l xs) (hk0 : 0 ≤ k0) (hk1 : k0 + 4 * (szLayouts xs : Nat) ≤ 4611686018427387904) :
    Calls Tryz.prog 34 #[.slice a l c, .int .i64 k0] w fun e u => ∃ k' : Int, e = .returned (.int .i64 k') ∧ k0 ≤ k' ∧ k' ≤ k0 + 4 * (szLayouts xs : Nat) ∧ Mk lo hi w u := by
  obtain ⟨hfl, hl, hx⟩ := h
  by_cases hl0 : l = 0
  · subst hl0
    clear hx
    go_enter Tryz.func34, Tryz.ntmps34
    go_wp2
    refine wp_loop_rounds 1 ?_
    rw [rounds_succ]
    go_wp2
    go_ret
    exact ⟨k0, rfl, Int.le_refl _, by omega, Mk.refl _ _ _⟩
  obtain ⟨b, o, rfl, hin⟩ : ∃ b o, a = some ⟨b, o, none⟩ ∧ ShLayout (hideR w lo hi) xs b o := by
    rcases hx with h | h
    · exact absurd h hl0
    · exact h
  have IN : Hid (ShLayout (hideR w lo hi) xs b o) := hin
  clear hin hx
  go_enter Tryz.func34, Tryz.ntmps34
  go_wp2
  go_loopw [1, 5] (fun v i wr => ∃ (j : Nat) (R : List RLayout) (kj : Int), j ≤ l ∧ i = .int .i64 j ∧ v = .int .i64 kj ∧ k0 ≤ kj ∧ kj + 4 * (szLayouts R : Nat) ≤ k0 + 4 * (szLayouts xs : Nat) ∧ R.length + j = l ∧ szLayouts R ≤ szLayouts xs ∧ Hid (ShLayout (hideR wr lo hi) R b (o + j * 1) ∧ Mk lo hi w wr)) (fun _ i _ => l - (intOf i).toNat)
  case atStart => exact ⟨0, xs, k0, Nat.zero_le _, rfl, rfl, Int.le_refl _, Int.le_refl _, by omega, Nat.le_refl _, by simpa using IN.out, Mk.refl _ _ _⟩
  case round =>
    clear IN
    obtain ⟨j, R, kj, hj, rfl, rfl, hkj, hks, hRl, hRs, HR⟩ := hrel
    by_cases hlt : j < l
    · obtain ⟨x, R', rfl⟩ : ∃ x R', R = x :: R' := by
        cases R with
        | nil => simp at hRl; omega
        | cons x R' => exact ⟨x, R', rfl⟩
      simp only [List.length_cons] at hRl
      obtain ⟨hS, hM⟩ := HR.out
      simp only [szLayouts, szLayout] at hks hRs
      have e3 : o + j * 1 + 1 = o + (j + 1) * 1 := by omega
      have hj0 : (0 : Int) ≤ (j : Int) := by omega
      have hj1 : (j : Int) < (l : Int) := by omega
      have ST : Hid (ShLayout (hideR wr lo hi) (x :: R') b (o + j * 1) ∧ Mk lo hi w wr) := ⟨hS, hM⟩
      clear hS hM HR
      obtain ⟨⟨a0, l0, c0, d0, s0⟩, hrest⟩ := ST.out.1
      simp only [Nat.mul_one] at d0
      have dv := (hideR_open d0).1
      have CC : Hid _ := mkTys lo hi x.cons a0 l0 c0 (kj) wr s0 (by omega) (by omega)
      have S2 : Hid (ShLayout (hideR wr lo hi) (x :: R') b (o + j * 1) ∧ Mk lo hi w wr) := ⟨ShLayout.like (Mk.refl lo hi wr).like _ _ _ ST.out.1, ST.out.2.trans (Mk.refl lo hi wr)⟩
      clear d0 hrest ST   s0
      go_wp2_with fail
      refine Calls.mono CC.out ?_
      rintro e v0 ⟨kn0, he, hka0, hkb0, hmk⟩
      subst he
      have ST : Hid (ShLayout (hideR v0 lo hi) (x :: R') b (o + j * 1) ∧ Mk lo hi w v0) := ⟨ShLayout.like hmk.like _ _ _ S2.out.1, S2.out.2.trans hmk⟩
      skip
      clear CC hmk S2 dv 
      have FIN : Hid (ShLayout (hideR v0 lo hi) R' b (o + (j + 1) * 1) ∧ Mk lo hi w v0) := ⟨by rw [← e3]; exact ST.out.1.2, ST.out.2⟩
      clear ST
      simp only []
      go_wp2
      go_roundw
      case rel => exact ⟨j + 1, R', kn0, by omega, by go_num, rfl, by omega, by omega, by omega, by omega, FIN.out.1, FIN.out.2⟩
      case measure => simp [intOf]; omega
    · obtain rfl : j = l := by omega
      have FW : Hid (Mk lo hi w wr) := HR.out.2
      clear HR
      go_wp2
      go_ret
      exact ⟨kj, rfl, hkj, by omega, FW.out⟩

end Go.Proofs.YtpdkgmagjhibkaaGreatDoor.By

namespace Go.Proofs.YtpdkgmagjhibkaaGreatDoor.By
open Go.RowKit
set_option linter.unusedVariables false
set_option linter.unusedSimpArgs false

/-- How Ins lies, whatever numbers it bears. -/
def ElIns (w : World) (x : RIns) (b off : Nat) : Prop := (∃ z, w.cell? ⟨b, off, none⟩ = some (.int .i64 z)) ∧ (∃ z, w.cell? ⟨b, off + 1, none⟩ = some (.int .i64 z)) ∧ (∃ z, w.cell? ⟨b, off + 2, none⟩ = some (.int .i64 z)) ∧ (∃ a l c, w.cell? ⟨b, off + 3, none⟩ = some (.slice a l c) ∧ ShN w .u8 a l x.lit.length) ∧ (∃ a l c, w.cell? ⟨b, off + 4, none⟩ = some (.slice a l c) ∧ ShN w .i64 a l x.tos.length)
def ShIns (w : World) : List RIns → Nat → Nat → Prop
  | [], _, _ => True
  | x :: r, b, off => ElIns w x b off ∧ ShIns w r b (off + 5)
def ShLIns (w : World) (a : Option Addr) (l : Nat) (xs : List RIns) : Prop := xs.length = l ∧ l ≤ 9223372036854775807 ∧ (l = 0 ∨ ∃ b o, a = some ⟨b, o, none⟩ ∧ ShIns w xs b o)
theorem ShIns.like {w u : World} (hk : CLk w u) (xs : List RIns) : ∀ b off, ShIns w xs b off → ShIns u xs b off := by
  induction xs with
  | nil => intro b off _; trivial
  | cons x r ih =>
    intro b off h
    obtain ⟨⟨h0, h1, h2, ⟨a3, l3, c3, h3, s3⟩, ⟨a4, l4, c4, h4, s4⟩⟩, hr⟩ := h
    exact ⟨⟨hk.int h0, hk.int h1, hk.int h2, ⟨a3, l3, c3, hk.slice h3, s3.like hk⟩, ⟨a4, l4, c4, hk.slice h4, s4.like hk⟩⟩, ih _ _ hr⟩
theorem ShLIns.like {w u : World} {xs : List RIns} {a : Option Addr} {l : Nat} (h : ShLIns w a l xs) (hk : CLk w u) : ShLIns u a l xs := by
  obtain ⟨h1, h2, h3⟩ := h
  refine ⟨h1, h2, ?_⟩
  rcases h3 with h3 | ⟨b, o, e, h3⟩
  · exact .inl h3
  · exact .inr ⟨b, o, e, ShIns.like hk _ _ _ h3⟩
theorem InIns.sh {w : World} (xs : List RIns) : ∀ b off, InIns w w xs b off → ShIns w xs b off := by
  induction xs with
  | nil => intro b off _; trivial
  | cons x r ih =>
    intro b off h
    obtain ⟨⟨a1, l1, c1, a2, l2, c2, ⟨k0, k1, k2, k3, k4⟩, hd⟩, hr⟩ := h
    exact ⟨⟨⟨_, k0⟩, ⟨_, k1⟩, ⟨_, k2⟩, ⟨a1, l1, c1, k3, ⟨RdB.sh hd.1, (hd.1).1.1.symm⟩⟩, ⟨a2, l2, c2, k4, ⟨RdI.sh hd.2, (hd.2).1.1.symm⟩⟩⟩, ih _ _ hr⟩
theorem SlIns.sh {w : World} {xs : List RIns} {a : Option Addr} {l : Nat} (h : SlIns w a l xs) : ShLIns w a l xs := by
  obtain ⟨h1, h2, h3⟩ := h
  refine ⟨h1, h2, ?_⟩
  rcases h3 with h3 | ⟨b, o, e, h3⟩
  · exact .inl h3
  · exact .inr ⟨b, o, e, h3.sh⟩

set_option maxRecDepth 8000 in
set_option maxHeartbeats 4000000 in
theorem mkIns (lo hi : Nat) (xs : List RIns) (a : Option Addr) (l c : Nat) (k0 : Int) (w : World) (h : ShLIns (hideR w lo hi) a l xs) (hk0 : 0 ≤ k0) (hk1 : k0 + 4 * (szInss xs : Nat) ≤ 4611686018427387904) :
    Calls Tryz.prog 63 #[.slice a l c, .int .i64 k0] w fun e u => ∃ k' : Int, e = .returned (.int .i64 k') ∧ k0 ≤ k' ∧ k' ≤ k0 + 4 * (szInss xs : Nat) ∧ Mk lo hi w u := by
  obtain ⟨hfl, hl, hx⟩ := h
  by_cases hl0 : l = 0
  · subst hl0
    clear hx
    go_enter Tryz.func63, Tryz.ntmps63
    go_wp2
    refine wp_loop_rounds 1 ?_
    rw [rounds_succ]
    go_wp2
    go_ret
    exact ⟨k0, rfl, Int.le_refl _, by omega, Mk.refl _ _ _⟩
  obtain ⟨b, o, rfl, hin⟩ : ∃ b o, a = some ⟨b, o, none⟩ ∧ ShIns (hideR w lo hi) xs b o := by
    rcases hx with h | h
    · exact absurd h hl0
    · exact h
  have IN : Hid (ShIns (hideR w lo hi) xs b o) := hin
  clear hin hx
  go_enter Tryz.func63, Tryz.ntmps63
  go_wp2
  go_loopw [1, 5] (fun v i wr => ∃ (j : Nat) (R : List RIns) (kj : Int), j ≤ l ∧ i = .int .i64 j ∧ v = .int .i64 kj ∧ k0 ≤ kj ∧ kj + 4 * (szInss R : Nat) ≤ k0 + 4 * (szInss xs : Nat) ∧ R.length + j = l ∧ szInss R ≤ szInss xs ∧ Hid (ShIns (hideR wr lo hi) R b (o + j * 5) ∧ Mk lo hi w wr)) (fun _ i _ => l - (intOf i).toNat)
  case atStart => exact ⟨0, xs, k0, Nat.zero_le _, rfl, rfl, Int.le_refl _, Int.le_refl _, by omega, Nat.le_refl _, by simpa using IN.out, Mk.refl _ _ _⟩
  case round =>
    clear IN
    obtain ⟨j, R, kj, hj, rfl, rfl, hkj, hks, hRl, hRs, HR⟩ := hrel
    by_cases hlt : j < l
    · obtain ⟨x, R', rfl⟩ : ∃ x R', R = x :: R' := by
        cases R with
        | nil => simp at hRl; omega
        | cons x R' => exact ⟨x, R', rfl⟩
      simp only [List.length_cons] at hRl
      obtain ⟨hS, hM⟩ := HR.out
      simp only [szInss, szIns] at hks hRs
      have e3 : o + j * 5 + 5 = o + (j + 1) * 5 := by omega
      have hj0 : (0 : Int) ≤ (j : Int) := by omega
      have hj1 : (j : Int) < (l : Int) := by omega
      have ST : Hid (ShIns (hideR wr lo hi) (x :: R') b (o + j * 5) ∧ Mk lo hi w wr) := ⟨hS, hM⟩
      clear hS hM HR
      obtain ⟨⟨⟨z0, d0⟩, ⟨z1, d1⟩, ⟨z2, d2⟩, ⟨a3, l3, c3, d3, s3⟩, ⟨a4, l4, c4, d4, s4⟩⟩, hrest⟩ := ST.out.1
      have m0_0 := Mk.set (lo := lo) (hi := hi) d0 (kj)
      obtain ⟨y0_1, e0_1⟩ := CLk.int m0_0.like ⟨_, d1⟩
      have m0_1 := Mk.set (lo := lo) (hi := hi) e0_1 (kj + 1)
      have m0_1 := m0_0.trans m0_1
      obtain ⟨y0_2, e0_2⟩ := CLk.int m0_1.like ⟨_, d2⟩
      have m0_2 := Mk.set (lo := lo) (hi := hi) e0_2 (kj + 1 + 1)
      have m0_2 := m0_1.trans m0_2
      have ff0 := (hideR_open d0).2
      have gg0 := (hideR_open d0).1
      have ff1 := (hideR_open d1).2
      have gg1 := (hideR_open d1).1
      have ff2 := (hideR_open d2).2
      have gg2 := (hideR_open d2).1
      have dv := (hideR_open (m0_2.like.slice d3)).1
      have dw := (hideR_open d3).1
      have HQ3 : Hid _ := s3.2
      have CC : Hid _ := mkB lo hi a3 l3 c3 (kj + 1 + 1 + 1) (((wr.setCell ⟨b, o + j * 5, none⟩ (.int .i64 (kj))).setCell ⟨b, o + j * 5 + 1, none⟩ (.int .i64 (kj + 1))).setCell ⟨b, o + j * 5 + 2, none⟩ (.int .i64 (kj + 1 + 1))) ((s3.like m0_2.like)).1 (by omega) (by have := ((s3.like m0_2.like)).2; omega)
      have S2 : Hid (ShIns (hideR (((wr.setCell ⟨b, o + j * 5, none⟩ (.int .i64 (kj))).setCell ⟨b, o + j * 5 + 1, none⟩ (.int .i64 (kj + 1))).setCell ⟨b, o + j * 5 + 2, none⟩ (.int .i64 (kj + 1 + 1))) lo hi) (x :: R') b (o + j * 5) ∧ Mk lo hi w (((wr.setCell ⟨b, o + j * 5, none⟩ (.int .i64 (kj))).setCell ⟨b, o + j * 5 + 1, none⟩ (.int .i64 (kj + 1))).setCell ⟨b, o + j * 5 + 2, none⟩ (.int .i64 (kj + 1 + 1)))) := ⟨ShIns.like m0_2.like _ _ _ ST.out.1, ST.out.2.trans m0_2⟩
      clear d0 d1 d2 d3 d4 hrest ST m0_0 m0_1 m0_2 e0_1 e0_2 s3 s4
      go_wp2_with fail
      refine Calls.mono CC.out ?_
      rintro e v0 ⟨kn0, he, hka0, hkb0, hmk⟩
      subst he
      have ST : Hid (ShIns (hideR v0 lo hi) (x :: R') b (o + j * 5) ∧ Mk lo hi w v0) := ⟨ShIns.like hmk.like _ _ _ S2.out.1, S2.out.2.trans hmk⟩
      rw [HQ3.out] at hkb0
      clear CC hmk S2 dv HQ3 dw ff0 gg0 ff1 gg1 ff2 gg2
      obtain ⟨⟨⟨z0, d0⟩, ⟨z1, d1⟩, ⟨z2, d2⟩, ⟨a3, l3, c3, d3, s3⟩, ⟨a4, l4, c4, d4, s4⟩⟩, hrest⟩ := ST.out.1
      have dv := (hideR_open d4).1
      have HQ4 : Hid _ := s4.2
      have CC : Hid _ := mkI lo hi a4 l4 c4 (kn0) v0 (s4).1 (by omega) (by have := (s4).2; omega)
      have S2 : Hid (ShIns (hideR v0 lo hi) (x :: R') b (o + j * 5) ∧ Mk lo hi w v0) := ⟨ShIns.like (Mk.refl lo hi v0).like _ _ _ ST.out.1, ST.out.2.trans (Mk.refl lo hi v0)⟩
      clear d0 d1 d2 d3 d4 hrest ST   s3 s4
      simp only []
      go_wp2_with fail
      refine Calls.mono CC.out ?_
      rintro e v1 ⟨kn1, he, hka1, hkb1, hmk⟩
      subst he
      have ST : Hid (ShIns (hideR v1 lo hi) (x :: R') b (o + j * 5) ∧ Mk lo hi w v1) := ⟨ShIns.like hmk.like _ _ _ S2.out.1, S2.out.2.trans hmk⟩
      rw [HQ4.out] at hkb1
      clear CC hmk S2 dv HQ4 
      have FIN : Hid (ShIns (hideR v1 lo hi) R' b (o + (j + 1) * 5) ∧ Mk lo hi w v1) := ⟨by rw [← e3]; exact ST.out.1.2, ST.out.2⟩
      clear ST
      simp only []
      go_wp2
      go_roundw
      case rel => exact ⟨j + 1, R', kn1, by omega, by go_num, rfl, by omega, by omega, by omega, by omega, FIN.out.1, FIN.out.2⟩
      case measure => simp [intOf]; omega
    · obtain rfl : j = l := by omega
      have FW : Hid (Mk lo hi w wr) := HR.out.2
      clear HR
      go_wp2
      go_ret
      exact ⟨kj, rfl, hkj, by omega, FW.out⟩

end Go.Proofs.YtpdkgmagjhibkaaGreatDoor.By
