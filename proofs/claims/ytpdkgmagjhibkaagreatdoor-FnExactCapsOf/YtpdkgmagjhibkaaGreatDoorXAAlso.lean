/-
  Several texts in one (MKBlock, MKProg, XA). No statement is proved here.
-/
import Derived.Test.YtpdkgmagjhibkaaGreatDoorMKInsAlso
import Derived.Test.YtpdkgmagjhibkaaGreatDoorSBlocks
import Derived.Test.YtpdkgmagjhibkaaGreatDoorSOpLayoutsAlso
import Derived.Test.YtpdkgmagjhibkaaGreatDoorTVbAlso
import Derived.Test.YtpdkgmagjhibkaaGreatDoorTVlAlso
namespace Go.Proofs.YtpdkgmagjhibkaaGreatDoor.By
open Go.RowKit
set_option linter.unusedVariables false
set_option linter.unusedSimpArgs false

/-- How Block lies, whatever numbers it bears. -/
def ElBlock (w : World) (x : RBlock) (b off : Nat) : Prop := (∃ a l c, w.cell? ⟨b, off, none⟩ = some (.slice a l c) ∧ ShS w a l x.env) ∧ (∃ z, w.cell? ⟨b, off + 1, none⟩ = some (.int .i64 z)) ∧ (∃ z, w.cell? ⟨b, off + 2, none⟩ = some (.int .i64 z)) ∧ (∃ a l c, w.cell? ⟨b, off + 3, none⟩ = some (.slice a l c) ∧ ShS w a l x.argf) ∧ (∃ z, w.cell? ⟨b, off + 4, none⟩ = some (.int .i64 z)) ∧ (∃ z, w.cell? ⟨b, off + 5, none⟩ = some (.int .i64 z)) ∧ (∃ a l c, w.cell? ⟨b, off + 6, none⟩ = some (.slice a l c) ∧ ShS w a l x.resf) ∧ (∃ a l c, w.cell? ⟨b, off + 7, none⟩ = some (.slice a l c) ∧ ShS w a l x.locs) ∧ (∃ a l c, w.cell? ⟨b, off + 8, none⟩ = some (.slice a l c) ∧ ShLIns w a l x.code)
def ShBlock (w : World) : List RBlock → Nat → Nat → Prop
  | [], _, _ => True
  | x :: r, b, off => ElBlock w x b off ∧ ShBlock w r b (off + 9)
def ShLBlock (w : World) (a : Option Addr) (l : Nat) (xs : List RBlock) : Prop := xs.length = l ∧ l ≤ 9223372036854775807 ∧ (l = 0 ∨ ∃ b o, a = some ⟨b, o, none⟩ ∧ ShBlock w xs b o)
theorem ShBlock.like {w u : World} (hk : CLk w u) (xs : List RBlock) : ∀ b off, ShBlock w xs b off → ShBlock u xs b off := by
  induction xs with
  | nil => intro b off _; trivial
  | cons x r ih =>
    intro b off h
    obtain ⟨⟨⟨a0, l0, c0, h0, s0⟩, h1, h2, ⟨a3, l3, c3, h3, s3⟩, h4, h5, ⟨a6, l6, c6, h6, s6⟩, ⟨a7, l7, c7, h7, s7⟩, ⟨a8, l8, c8, h8, s8⟩⟩, hr⟩ := h
    exact ⟨⟨⟨a0, l0, c0, hk.slice h0, s0.like hk⟩, hk.int h1, hk.int h2, ⟨a3, l3, c3, hk.slice h3, s3.like hk⟩, hk.int h4, hk.int h5, ⟨a6, l6, c6, hk.slice h6, s6.like hk⟩, ⟨a7, l7, c7, hk.slice h7, s7.like hk⟩, ⟨a8, l8, c8, hk.slice h8, s8.like hk⟩⟩, ih _ _ hr⟩
theorem ShLBlock.like {w u : World} {xs : List RBlock} {a : Option Addr} {l : Nat} (h : ShLBlock w a l xs) (hk : CLk w u) : ShLBlock u a l xs := by
  obtain ⟨h1, h2, h3⟩ := h
  refine ⟨h1, h2, ?_⟩
  rcases h3 with h3 | ⟨b, o, e, h3⟩
  · exact .inl h3
  · exact .inr ⟨b, o, e, ShBlock.like hk _ _ _ h3⟩
theorem InBlock.sh {w : World} (xs : List RBlock) : ∀ b off, InBlock w w xs b off → ShBlock w xs b off := by
  induction xs with
  | nil => intro b off _; trivial
  | cons x r ih =>
    intro b off h
    obtain ⟨⟨a1, l1, c1, a2, l2, c2, a3, l3, c3, a4, l4, c4, a5, l5, c5, ⟨k0, k1, k2, k3, k4, k5, k6, k7, k8⟩, hd⟩, hr⟩ := h
    exact ⟨⟨⟨a1, l1, c1, k0, SlF.sh hd.1⟩, ⟨_, k1⟩, ⟨_, k2⟩, ⟨a2, l2, c2, k3, SlF.sh hd.2.1⟩, ⟨_, k4⟩, ⟨_, k5⟩, ⟨a3, l3, c3, k6, SlF.sh hd.2.2.1⟩, ⟨a4, l4, c4, k7, SlF.sh hd.2.2.2.1⟩, ⟨a5, l5, c5, k8, SlIns.sh hd.2.2.2.2⟩⟩, ih _ _ hr⟩
theorem SlBlock.sh {w : World} {xs : List RBlock} {a : Option Addr} {l : Nat} (h : SlBlock w a l xs) : ShLBlock w a l xs := by
  obtain ⟨h1, h2, h3⟩ := h
  refine ⟨h1, h2, ?_⟩
  rcases h3 with h3 | ⟨b, o, e, h3⟩
  · exact .inl h3
  · exact .inr ⟨b, o, e, h3.sh⟩

set_option maxRecDepth 8000 in
set_option maxHeartbeats 4000000 in
theorem mkBlock (lo hi : Nat) (xs : List RBlock) (a : Option Addr) (l c : Nat) (k0 : Int) (w : World) (h : ShLBlock (hideR w lo hi) a l xs) (hk0 : 0 ≤ k0) (hk1 : k0 + 4 * (szBlocks xs : Nat) ≤ 4611686018427387904) :
    Calls Tryz.prog 35 #[.slice a l c, .int .i64 k0] w fun e u => ∃ k' : Int, e = .returned (.int .i64 k') ∧ k0 ≤ k' ∧ k' ≤ k0 + 4 * (szBlocks xs : Nat) ∧ Mk lo hi w u := by
  obtain ⟨hfl, hl, hx⟩ := h
  by_cases hl0 : l = 0
  · subst hl0
    clear hx
    go_enter Tryz.func35, Tryz.ntmps35
    go_wp2
    refine wp_loop_rounds 1 ?_
    rw [rounds_succ]
    go_wp2
    go_ret
    exact ⟨k0, rfl, Int.le_refl _, by omega, Mk.refl _ _ _⟩
  obtain ⟨b, o, rfl, hin⟩ : ∃ b o, a = some ⟨b, o, none⟩ ∧ ShBlock (hideR w lo hi) xs b o := by
    rcases hx with h | h
    · exact absurd h hl0
    · exact h
  have IN : Hid (ShBlock (hideR w lo hi) xs b o) := hin
  clear hin hx
  go_enter Tryz.func35, Tryz.ntmps35
  go_wp2
  go_loopw [1, 5] (fun v i wr => ∃ (j : Nat) (R : List RBlock) (kj : Int), j ≤ l ∧ i = .int .i64 j ∧ v = .int .i64 kj ∧ k0 ≤ kj ∧ kj + 4 * (szBlocks R : Nat) ≤ k0 + 4 * (szBlocks xs : Nat) ∧ R.length + j = l ∧ szBlocks R ≤ szBlocks xs ∧ Hid (ShBlock (hideR wr lo hi) R b (o + j * 9) ∧ Mk lo hi w wr)) (fun _ i _ => l - (intOf i).toNat)
  case atStart => exact ⟨0, xs, k0, Nat.zero_le _, rfl, rfl, Int.le_refl _, Int.le_refl _, by omega, Nat.le_refl _, by simpa using IN.out, Mk.refl _ _ _⟩
  case round =>
    clear IN
    obtain ⟨j, R, kj, hj, rfl, rfl, hkj, hks, hRl, hRs, HR⟩ := hrel
    by_cases hlt : j < l
    · obtain ⟨x, R', rfl⟩ : ∃ x R', R = x :: R' := by
        cases R with
        | nil => simp at hRl; omega
        | cons x R' => exact ⟨x, R', rfl⟩
      simp only [List.length_cons] at hRl
      obtain ⟨hS, hM⟩ := HR.out
      simp only [szBlocks, szBlock] at hks hRs
      have e3 : o + j * 9 + 9 = o + (j + 1) * 9 := by omega
      have hj0 : (0 : Int) ≤ (j : Int) := by omega
      have hj1 : (j : Int) < (l : Int) := by omega
      have ST : Hid (ShBlock (hideR wr lo hi) (x :: R') b (o + j * 9) ∧ Mk lo hi w wr) := ⟨hS, hM⟩
      clear hS hM HR
      obtain ⟨⟨⟨a0, l0, c0, d0, s0⟩, ⟨z1, d1⟩, ⟨z2, d2⟩, ⟨a3, l3, c3, d3, s3⟩, ⟨z4, d4⟩, ⟨z5, d5⟩, ⟨a6, l6, c6, d6, s6⟩, ⟨a7, l7, c7, d7, s7⟩, ⟨a8, l8, c8, d8, s8⟩⟩, hrest⟩ := ST.out.1
      have dv := (hideR_open d0).1
      have CC : Hid _ := mkS lo hi (x.env.size + 1) x.env a0 l0 c0 (kj) wr (by omega) s0 (by omega) (by omega)
      have S2 : Hid (ShBlock (hideR wr lo hi) (x :: R') b (o + j * 9) ∧ Mk lo hi w wr) := ⟨ShBlock.like (Mk.refl lo hi wr).like _ _ _ ST.out.1, ST.out.2.trans (Mk.refl lo hi wr)⟩
      clear d0 d1 d2 d3 d4 d5 d6 d7 d8 hrest ST   s0 s3 s6 s7 s8
      go_wp2_with fail
      refine Calls.mono CC.out ?_
      rintro e v0 ⟨kn0, he, hka0, hkb0, hmk⟩
      subst he
      have ST : Hid (ShBlock (hideR v0 lo hi) (x :: R') b (o + j * 9) ∧ Mk lo hi w v0) := ⟨ShBlock.like hmk.like _ _ _ S2.out.1, S2.out.2.trans hmk⟩
      skip
      clear CC hmk S2 dv 
      obtain ⟨⟨⟨a0, l0, c0, d0, s0⟩, ⟨z1, d1⟩, ⟨z2, d2⟩, ⟨a3, l3, c3, d3, s3⟩, ⟨z4, d4⟩, ⟨z5, d5⟩, ⟨a6, l6, c6, d6, s6⟩, ⟨a7, l7, c7, d7, s7⟩, ⟨a8, l8, c8, d8, s8⟩⟩, hrest⟩ := ST.out.1
      have m1_0 := Mk.set (lo := lo) (hi := hi) d1 (kn0)
      obtain ⟨y1_1, e1_1⟩ := CLk.int m1_0.like ⟨_, d2⟩
      have m1_1 := Mk.set (lo := lo) (hi := hi) e1_1 (kn0 + 1)
      have m1_1 := m1_0.trans m1_1
      have ff1 := (hideR_open d1).2
      have gg1 := (hideR_open d1).1
      have ff2 := (hideR_open d2).2
      have gg2 := (hideR_open d2).1
      have dv := (hideR_open (m1_1.like.slice d3)).1
      have dw := (hideR_open d3).1
      have CC : Hid _ := mkS lo hi (x.argf.size + 1) x.argf a3 l3 c3 (kn0 + 1 + 1) ((v0.setCell ⟨b, o + j * 9 + 1, none⟩ (.int .i64 (kn0))).setCell ⟨b, o + j * 9 + 2, none⟩ (.int .i64 (kn0 + 1))) (by omega) (s3.like m1_1.like) (by omega) (by omega)
      have S2 : Hid (ShBlock (hideR ((v0.setCell ⟨b, o + j * 9 + 1, none⟩ (.int .i64 (kn0))).setCell ⟨b, o + j * 9 + 2, none⟩ (.int .i64 (kn0 + 1))) lo hi) (x :: R') b (o + j * 9) ∧ Mk lo hi w ((v0.setCell ⟨b, o + j * 9 + 1, none⟩ (.int .i64 (kn0))).setCell ⟨b, o + j * 9 + 2, none⟩ (.int .i64 (kn0 + 1)))) := ⟨ShBlock.like m1_1.like _ _ _ ST.out.1, ST.out.2.trans m1_1⟩
      clear d0 d1 d2 d3 d4 d5 d6 d7 d8 hrest ST m1_0 m1_1 e1_1 s0 s3 s6 s7 s8
      simp only []
      go_wp2_with fail
      refine Calls.mono CC.out ?_
      rintro e v1 ⟨kn1, he, hka1, hkb1, hmk⟩
      subst he
      have ST : Hid (ShBlock (hideR v1 lo hi) (x :: R') b (o + j * 9) ∧ Mk lo hi w v1) := ⟨ShBlock.like hmk.like _ _ _ S2.out.1, S2.out.2.trans hmk⟩
      skip
      clear CC hmk S2 dv dw ff1 gg1 ff2 gg2
      obtain ⟨⟨⟨a0, l0, c0, d0, s0⟩, ⟨z1, d1⟩, ⟨z2, d2⟩, ⟨a3, l3, c3, d3, s3⟩, ⟨z4, d4⟩, ⟨z5, d5⟩, ⟨a6, l6, c6, d6, s6⟩, ⟨a7, l7, c7, d7, s7⟩, ⟨a8, l8, c8, d8, s8⟩⟩, hrest⟩ := ST.out.1
      have m2_0 := Mk.set (lo := lo) (hi := hi) d4 (kn1)
      obtain ⟨y2_1, e2_1⟩ := CLk.int m2_0.like ⟨_, d5⟩
      have m2_1 := Mk.set (lo := lo) (hi := hi) e2_1 (kn1 + 1)
      have m2_1 := m2_0.trans m2_1
      have ff4 := (hideR_open d4).2
      have gg4 := (hideR_open d4).1
      have ff5 := (hideR_open d5).2
      have gg5 := (hideR_open d5).1
      have dv := (hideR_open (m2_1.like.slice d6)).1
      have dw := (hideR_open d6).1
      have CC : Hid _ := mkS lo hi (x.resf.size + 1) x.resf a6 l6 c6 (kn1 + 1 + 1) ((v1.setCell ⟨b, o + j * 9 + 4, none⟩ (.int .i64 (kn1))).setCell ⟨b, o + j * 9 + 5, none⟩ (.int .i64 (kn1 + 1))) (by omega) (s6.like m2_1.like) (by omega) (by omega)
      have S2 : Hid (ShBlock (hideR ((v1.setCell ⟨b, o + j * 9 + 4, none⟩ (.int .i64 (kn1))).setCell ⟨b, o + j * 9 + 5, none⟩ (.int .i64 (kn1 + 1))) lo hi) (x :: R') b (o + j * 9) ∧ Mk lo hi w ((v1.setCell ⟨b, o + j * 9 + 4, none⟩ (.int .i64 (kn1))).setCell ⟨b, o + j * 9 + 5, none⟩ (.int .i64 (kn1 + 1)))) := ⟨ShBlock.like m2_1.like _ _ _ ST.out.1, ST.out.2.trans m2_1⟩
      clear d0 d1 d2 d3 d4 d5 d6 d7 d8 hrest ST m2_0 m2_1 e2_1 s0 s3 s6 s7 s8
      simp only []
      go_wp2_with fail
      refine Calls.mono CC.out ?_
      rintro e v2 ⟨kn2, he, hka2, hkb2, hmk⟩
      subst he
      have ST : Hid (ShBlock (hideR v2 lo hi) (x :: R') b (o + j * 9) ∧ Mk lo hi w v2) := ⟨ShBlock.like hmk.like _ _ _ S2.out.1, S2.out.2.trans hmk⟩
      skip
      clear CC hmk S2 dv dw ff4 gg4 ff5 gg5
      obtain ⟨⟨⟨a0, l0, c0, d0, s0⟩, ⟨z1, d1⟩, ⟨z2, d2⟩, ⟨a3, l3, c3, d3, s3⟩, ⟨z4, d4⟩, ⟨z5, d5⟩, ⟨a6, l6, c6, d6, s6⟩, ⟨a7, l7, c7, d7, s7⟩, ⟨a8, l8, c8, d8, s8⟩⟩, hrest⟩ := ST.out.1
      have dv := (hideR_open d7).1
      have CC : Hid _ := mkS lo hi (x.locs.size + 1) x.locs a7 l7 c7 (kn2) v2 (by omega) s7 (by omega) (by omega)
      have S2 : Hid (ShBlock (hideR v2 lo hi) (x :: R') b (o + j * 9) ∧ Mk lo hi w v2) := ⟨ShBlock.like (Mk.refl lo hi v2).like _ _ _ ST.out.1, ST.out.2.trans (Mk.refl lo hi v2)⟩
      clear d0 d1 d2 d3 d4 d5 d6 d7 d8 hrest ST   s0 s3 s6 s7 s8
      simp only []
      go_wp2_with fail
      refine Calls.mono CC.out ?_
      rintro e v3 ⟨kn3, he, hka3, hkb3, hmk⟩
      subst he
      have ST : Hid (ShBlock (hideR v3 lo hi) (x :: R') b (o + j * 9) ∧ Mk lo hi w v3) := ⟨ShBlock.like hmk.like _ _ _ S2.out.1, S2.out.2.trans hmk⟩
      skip
      clear CC hmk S2 dv 
      obtain ⟨⟨⟨a0, l0, c0, d0, s0⟩, ⟨z1, d1⟩, ⟨z2, d2⟩, ⟨a3, l3, c3, d3, s3⟩, ⟨z4, d4⟩, ⟨z5, d5⟩, ⟨a6, l6, c6, d6, s6⟩, ⟨a7, l7, c7, d7, s7⟩, ⟨a8, l8, c8, d8, s8⟩⟩, hrest⟩ := ST.out.1
      have dv := (hideR_open d8).1
      have CC : Hid _ := mkIns lo hi x.code a8 l8 c8 (kn3) v3 s8 (by omega) (by omega)
      have S2 : Hid (ShBlock (hideR v3 lo hi) (x :: R') b (o + j * 9) ∧ Mk lo hi w v3) := ⟨ShBlock.like (Mk.refl lo hi v3).like _ _ _ ST.out.1, ST.out.2.trans (Mk.refl lo hi v3)⟩
      clear d0 d1 d2 d3 d4 d5 d6 d7 d8 hrest ST   s0 s3 s6 s7 s8
      simp only []
      go_wp2_with fail
      refine Calls.mono CC.out ?_
      rintro e v4 ⟨kn4, he, hka4, hkb4, hmk⟩
      subst he
      have ST : Hid (ShBlock (hideR v4 lo hi) (x :: R') b (o + j * 9) ∧ Mk lo hi w v4) := ⟨ShBlock.like hmk.like _ _ _ S2.out.1, S2.out.2.trans hmk⟩
      skip
      clear CC hmk S2 dv 
      have FIN : Hid (ShBlock (hideR v4 lo hi) R' b (o + (j + 1) * 9) ∧ Mk lo hi w v4) := ⟨by rw [← e3]; exact ST.out.1.2, ST.out.2⟩
      clear ST
      simp only []
      go_wp2
      go_roundw
      case rel => exact ⟨j + 1, R', kn4, by omega, by go_num, rfl, by omega, by omega, by omega, by omega, FIN.out.1, FIN.out.2⟩
      case measure => simp [intOf]; omega
    · obtain rfl : j = l := by omega
      have FW : Hid (Mk lo hi w wr) := HR.out.2
      clear HR
      go_wp2
      go_ret
      exact ⟨kj, rfl, hkj, by omega, FW.out⟩

end Go.Proofs.YtpdkgmagjhibkaaGreatDoor.By

namespace Go.Proofs.YtpdkgmagjhibkaaGreatDoor.By
open Go.RowKit
set_option linter.unusedVariables false
set_option linter.unusedSimpArgs false

theorem hir_grown {w u : World} {lo hi : Nat} (h : w.grownBy u none) : CLe (hideR w lo hi) (hideR u lo hi) := fun p v hv => by
  obtain ⟨h1, h2, cur, t, h3⟩ := hideR_inv hv
  have e := h.block p.block (lt_of_block h3) (by simp)
  rw [cell_any (w := w) ((hideR_heap (w := u) h1.1 h1.2 (e.trans h3)).trans h3.symm)]
  exact h2
theorem CLe.unhir {u : World} {lo hi : Nat} : CLe (hideR u lo hi) u := fun p v hv => (hideR_inv hv).2.1
theorem OwB.mk {B n c lo hi : Nat} {w u : World} {a : Option Addr} {zs : List Int} (h : OwB B w a n c zs) (ht : Mk lo hi w u) (hb : ∀ g, (Value.slice a n c).ownBlock = some g → g < lo ∨ hi ≤ g) : OwB B u a n c zs := by
  obtain ⟨⟨h1, h2⟩, h3⟩ := h
  refine ⟨⟨h1, ?_⟩, h3⟩
  rcases h2 with h2 | ⟨g, cap, cur, e, hB, hg, r⟩
  · exact .inl h2
  · exact .inr ⟨g, cap, cur, e, hB, (ht.block g (lt_of_block hg) (hb g (by rw [e]; rfl))).trans hg, r⟩

set_option maxRecDepth 8000 in
set_option maxHeartbeats 2000000 in
theorem mkProg (lo hi : Nat) (x : RProg) (a1 : Option Addr) (l1 c1 : Nat) (a2 : Option Addr) (l2 c2 : Nat) (a3 : Option Addr) (l3 c3 : Nat) (k0 : Int) (w : World) (h : RdProg (hideR w lo hi) x a1 l1 a2 l2 a3 l3) (hh : hi ≤ w.heap.size) (hk0 : 0 ≤ k0) (hk1 : k0 + 4 * (szProg x : Nat) ≤ 4611686018427387904) :
    Calls Tryz.prog 14 #[.agg #[.slice a1 l1 c1, .slice a2 l2 c2, .slice a3 l3 c3], .int .i64 k0] w fun e u => ∃ k' : Int, e = .returned (.int .i64 k') ∧ k0 ≤ k' ∧ k' ≤ k0 + 4 * (szProg x : Nat) ∧ Mk lo hi w u := by
  have g0 := World.grownBy_alloc w (.cells #[.slice a1 l1 c1, .slice a2 l2 c2, .slice a3 l3 c3] 32) none
  have b0 := heap_alloc_new w (.cells #[.slice a1 l1 c1, .slice a2 l2 c2, .slice a3 l3 c3] 32)
  have hsz : szProg x = szLayouts x.lays + szBlocks x.blks + x.caps.length := rfl
  have hl3 : x.caps.length = l3 := h.2.2.1.1
  rw [hsz] at hk1
  have M0 : Hid (Mk lo hi w (w.alloc (.cells #[.slice a1 l1 c1, .slice a2 l2 c2, .slice a3 l3 c3] 32)) ∧ (w.alloc (.cells #[.slice a1 l1 c1, .slice a2 l2 c2, .slice a3 l3 c3] 32)).heap[w.heap.size]? = some (Obj.cells #[.slice a1 l1 c1, .slice a2 l2 c2, .slice a3 l3 c3] 32)) := ⟨Mk.grown g0, b0⟩
  have SH : Hid (ShLLayout (hideR w lo hi) a1 l1 x.lays ∧ ShLBlock (hideR w lo hi) a2 l2 x.blks ∧ ShI (hideR w lo hi) .i64 a3 l3) := ⟨h.1.sh, h.2.1.sh, h.2.2.sh⟩
  have C0 : Hid _ := mkLayout lo hi x.lays a1 l1 c1 k0 (w.alloc (.cells #[.slice a1 l1 c1, .slice a2 l2 c2, .slice a3 l3 c3] 32)) (SH.out.1.like M0.out.1.like) hk0 (by omega)
  have HSZ : Hid (szProg x = szLayouts x.lays + szBlocks x.blks + x.caps.length ∧ x.caps.length = l3) := ⟨hsz, hl3⟩
  obtain ⟨⟨y0, y1, y2⟩, -⟩ := blkProg b0
  rw [hl3] at hk1
  clear h g0 b0 hsz hl3
  go_enter Tryz.func14, Tryz.ntmps14
  go_wp2_with fail
  refine Calls.mono C0.out ?_
  rintro e u1 ⟨q1, he, ha1, hb1, hm⟩
  subst he
  have M1 : Hid (Mk lo hi w u1 ∧ u1.heap[w.heap.size]? = some (Obj.cells #[.slice a1 l1 c1, .slice a2 l2 c2, .slice a3 l3 c3] 32)) := ⟨M0.out.1.trans hm, (hm.block _ (lt_of_block M0.out.2) (.inr hh)).trans M0.out.2⟩
  clear C0 M0 hm y0 y1 y2
  have C1 : Hid _ := mkBlock lo hi x.blks a2 l2 c2 q1 u1 (SH.out.2.1.like M1.out.1.like) (by omega) (by omega)
  obtain ⟨⟨y0, y1, y2⟩, -⟩ := blkProg M1.out.2
  simp only []
  go_wp2_with fail
  refine Calls.mono C1.out ?_
  rintro e u2 ⟨q2, he, ha2, hb2, hm⟩
  subst he
  have M2 : Hid (Mk lo hi w u2 ∧ u2.heap[w.heap.size]? = some (Obj.cells #[.slice a1 l1 c1, .slice a2 l2 c2, .slice a3 l3 c3] 32)) := ⟨M1.out.1.trans hm, (hm.block _ (lt_of_block M1.out.2) (.inr hh)).trans M1.out.2⟩
  clear C1 M1 hm y0 y1 y2
  have C2 : Hid _ := mkI lo hi a3 l3 c3 q2 u2 (SH.out.2.2.like M2.out.1.like) (by omega) (by omega)
  obtain ⟨⟨y0, y1, y2⟩, -⟩ := blkProg M2.out.2
  simp only []
  go_wp2_with fail
  refine Calls.mono C2.out ?_
  rintro e u3 ⟨q3, he, ha3, hb3, hm⟩
  subst he
  have M3 : Hid (Mk lo hi w u3) := M2.out.1.trans hm
  clear C2 M2 hm y0 y1 y2
  simp only []
  go_wp2
  go_ret
  exact ⟨q3, rfl, by omega, by have := HSZ.out; omega, M3.out⟩

end Go.Proofs.YtpdkgmagjhibkaaGreatDoor.By

namespace Go.Proofs.YtpdkgmagjhibkaaGreatDoor.By
open Go.RowKit Go.Sort
set_option linter.unusedVariables false
set_option linter.unusedSimpArgs false

/-- The cap that an instruction asks for. -/
def capI (x : RIns) : List Int := if x.op = 31 ∧ x.a ≤ 4 then [x.a] else []
def capC : List RIns → List Int
  | [] => []
  | x :: r => capI x ++ capC r
def capK : List RBlock → List Int
  | [] => []
  | b :: r => capC b.code ++ capK r
theorem capC_app (a b : List RIns) : capC (a ++ b) = capC a ++ capC b := by
  induction a with
  | nil => rfl
  | cons x r ih => simp [capC, ih]
theorem capK_app (a b : List RBlock) : capK (a ++ b) = capK a ++ capK b := by
  induction a with
  | nil => rfl
  | cons x r ih => simp [capK, ih]
theorem capI_len (x : RIns) : (capI x).length ≤ 1 := by unfold capI; split <;> simp
theorem capC_len : ∀ l : List RIns, (capC l).length ≤ l.length
  | [] => by simp [capC]
  | x :: r => by have := capI_len x; have := capC_len r; simp only [capC, List.length_append, List.length_cons]; omega
theorem capK_len {M : Nat} : ∀ l : List RBlock, (l.any fun b => !blockV M b) = false → (capK l).length ≤ 1000 * l.length
  | [], _ => by simp [capK]
  | x :: r, h => by
    simp only [List.any_cons, Bool.or_eq_false_iff, Bool.not_eq_false'] at h
    have h1 := h.1
    unfold blockV at h1
    simp only [Bool.and_eq_true, decide_eq_true_eq] at h1
    have := capC_len x.code
    have := capK_len r h.2
    simp only [capK, List.length_append, List.length_cons]; omega
def capsOfV (x : RProg) : List Int := if okP x then insL [] (capK x.blks) else []
theorem capK_len2 {x : RProg} (h : okP x = true) : (capK x.blks).length ≤ 150000 := by
  unfold okP at h
  rw [Bool.and_eq_true] at h
  have h1 := h.1
  unfold standsV at h1
  simp only [Bool.and_eq_true, decide_eq_true_eq, Bool.not_eq_true'] at h1
  have := capK_len x.blks h1.2.2
  omega
theorem insL_one (l : List Int) (x : Int) : insL l [x] = srtV l x := rfl
theorem OwI.mk {B n c lo hi : Nat} {w u : World} {a : Option Addr} {zs : List Int} (h : OwI B w a n c zs) (ht : Mk lo hi w u) (hb : ∀ g, (Value.slice a n c).ownBlock = some g → g < lo ∨ hi ≤ g) : OwI B u a n c zs :=
  h.of (fun g cur hg e => ht.block g (lt_of_block hg) (hb g e.symm))
theorem capI_pos {x : RIns} (h : x.op = 31) (h4 : x.a ≤ 4) : capI x = [x.a] := if_pos ⟨h, h4⟩
theorem capI_no1 {x : RIns} (h : x.op ≠ 31) : capI x = [] := if_neg (fun e => h e.1)
theorem capI_no2 {x : RIns} (h : ¬ x.a ≤ 4) : capI x = [] := if_neg (fun e => h e.2)

end Go.Proofs.YtpdkgmagjhibkaaGreatDoor.By
