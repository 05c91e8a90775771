/-
  Several texts in one (TMark, TByL, EC1, SBa). No statement is proved here.
-/
import Derived.Test.YtpdkgmagjhibkaaGreatDoorTEqAlso
import Derived.Test.YtpdkgmagjhibkaaGreatDoorEBAlso
import Derived.Test.YtpdkgmagjhibkaaGreatDoorTBytesI
import Derived.Test.YtpdkgmagjhibkaaGreatDoorTSize
import Derived.Test.YtpdkgmagjhibkaaGreatDoorEC0Also
namespace Go.Proofs.YtpdkgmagjhibkaaGreatDoor.By
open Go.RowKit
set_option linter.unusedVariables false

/-- Nothing that was there has turned but the blocks bs. -/
structure Tn (w u : World) (bs : List Nat) : Prop where
  os : u.os = w.os
  tape : u.tape = w.tape
  output : u.output = w.output
  size : w.heap.size ≤ u.heap.size
  block : ∀ i, i < w.heap.size → i ∉ bs → u.heap[i]? = w.heap[i]?
theorem Tn.refl (w : World) (bs : List Nat) : Tn w w bs := ⟨rfl, rfl, rfl, Nat.le_refl _, fun _ _ _ => rfl⟩
theorem Tn.trans {a b c : World} {bs : List Nat} (h : Tn a b bs) (k : Tn b c bs) : Tn a c bs :=
  ⟨k.os.trans h.os, k.tape.trans h.tape, k.output.trans h.output, Nat.le_trans h.size k.size, fun i hi hn => (k.block i (Nat.lt_of_lt_of_le hi h.size) hn).trans (h.block i hi hn)⟩
theorem Tn.mono {w u : World} {bs bs' : List Nat} (h : Tn w u bs) (hs : ∀ x ∈ bs, x ∈ bs') : Tn w u bs' :=
  ⟨h.os, h.tape, h.output, h.size, fun i hi hn => h.block i hi (fun hx => hn (hs i hx))⟩
theorem Tn.grown {w u : World} (h : w.grownBy u none) (bs : List Nat) : Tn w u bs := ⟨h.os, h.tape, h.output, h.size, fun i hi _ => h.block i hi (by simp)⟩
theorem Tn.row {w u : World} {g : Nat} (h : w.grownBy u (some g)) : Tn w u [g] := ⟨h.os, h.tape, h.output, h.size, fun i hi hn => h.block i hi (by simpa using hn)⟩
theorem Tn.fresh {a w u : World} {bs : List Nat} (h : a.grownBy w none) (k : Tn w u bs) (hb : ∀ x ∈ bs, a.heap.size ≤ x) : a.grownBy u none :=
  ⟨k.os.trans h.os, k.tape.trans h.tape, k.output.trans h.output, Nat.le_trans h.size k.size, fun i hi _ => (k.block i (Nat.lt_of_lt_of_le hi h.size) (fun hx => by have := hb i hx; omega)).trans (h.block i hi (by simp))⟩

/-- k, k + 1, .. in the place of kinds and numbers. -/
def markF : F → Int → F
  | .nil, _ => .nil
  | .cons _ _ d r, k => .cons k (k + 1) (markF d (k + 1 + 1)) (markF r (k + 1 + 1 + 2 * d.size))
theorem markF_len (f : F) : ∀ k, (markF f k).len = f.len := by
  induction f with
  | nil => intro k; rfl
  | cons k n d r _ ih => intro x; simp only [markF, F.len, ih]
theorem markF_size (f : F) : ∀ k, (markF f k).size = f.size := by
  induction f with
  | nil => intro k; rfl
  | cons k n d r ihd ihr => intro x; simp only [markF, F.size, ihd, ihr]

/-- Two cells of a block are stored. -/
theorem Blk.put2 {u : World} {t : TypeId} {g c : Nat} (h : Blk u t g c) (p : Nat) (hp : p + 1 < c * 3) (v0 v1 : Value) :
    Blk ((u.setCell ⟨g, p, none⟩ v0).setCell ⟨g, p + 1, none⟩ v1) t g c ∧ u.grownBy ((u.setCell ⟨g, p, none⟩ v0).setCell ⟨g, p + 1, none⟩ v1) (some g) ∧
    (((u.setCell ⟨g, p, none⟩ v0).setCell ⟨g, p + 1, none⟩ v1).cell? ⟨g, p, none⟩ = some v0 ∧ ((u.setCell ⟨g, p, none⟩ v0).setCell ⟨g, p + 1, none⟩ v1).cell? ⟨g, p + 1, none⟩ = some v1) ∧
    ∀ q, (q < p ∨ p + 1 < q) → ((u.setCell ⟨g, p, none⟩ v0).setCell ⟨g, p + 1, none⟩ v1).cell? ⟨g, q, none⟩ = u.cell? ⟨g, q, none⟩ := by
  obtain ⟨cur, hc, hs⟩ := h
  have h1 := heap_setCell_same u g p cur t v0 hc
  have h2 := heap_setCell_same _ g (p + 1) _ t v1 h1
  refine ⟨⟨_, h2, by simpa using hs⟩, grown_trans (grown_setCell _ _ _ _) (grown_setCell _ _ _ _), ⟨?_, ?_⟩, fun q hq => ?_⟩
  · rw [cell_of_row _ g _ _ t (0, 0) h2]; simp [show p < cur.size by omega]
  · rw [cell_of_row _ g _ _ t (0, 0) h2]; simp [show p + 1 < cur.size by omega]
  · rw [cell_of_row _ g _ _ t (0, 0) h2, cell_of_row _ g _ _ t (0, 0) hc]
    rw [Array.getElem?_setIfInBounds_ne (by omega), Array.getElem?_setIfInBounds_ne (by omega)]

set_option maxHeartbeats 1000000 in
theorem markS (m : Nat) : ∀ (f : F) (a : Option Addr) (l c : Nat) (bs : List Nat) (k0 : Int) (w : World), f.size < m → SlO w 60 a l c f bs → bs.Nodup → 0 ≤ k0 → k0 + 2 * f.size ≤ 4611686018427387904 →
    Calls Tryz.prog 62 #[.slice a l c, .int .i64 k0] w fun e u => e = .returned (.int .i64 (k0 + 2 * f.size)) ∧ Tn w u bs ∧ SlO u 60 a l c (markF f k0) bs := by
  induction m with
  | zero => intro f a l c bs k0 w hm; exact absurd hm (Nat.not_lt_zero _)
  | succ m ih =>
    intro f a l c bs k0 w hm h hnd hk0 hk1
    obtain ⟨hfl, hl, hlc, hx⟩ := h
    by_cases hl0 : l = 0
    · subst hl0
      obtain rfl := F.nil_of_len hfl
      have HX : Hid _ := hx
      clear ih hx
      go_enter Tryz.func62, Tryz.ntmps62
      go_wp2
      refine wp_loop_rounds 1 ?_
      rw [rounds_succ]
      go_wp2
      go_ret
      refine ⟨by simp [F.size], Tn.refl _ _, rfl, hl, hlc, HX.out⟩
    rcases hx with ⟨hc0, _⟩ | ⟨g, bs', hp0, rfl, rfl, hblk, hown⟩
    · exact absurd hc0 (by omega)
    have IH : Hid _ := ih
    have H0 : Hid (Blk w 60 g c ∧ OwnF w 60 f g 0 bs' ∧ (g :: bs').Nodup) := ⟨hblk, hown, hnd⟩
    clear ih hblk hown hnd
    go_enter Tryz.func62, Tryz.ntmps62
    go_wp2
    go_loopw [1, 5] (fun v i wr => ∃ (j : Nat) (P R : F) (bsP bsR : List Nat) (kj : Int), j ≤ l ∧ i = .int .i64 j ∧ v = .int .i64 kj ∧ 0 ≤ kj ∧ kj + 2 * R.size = k0 + 2 * f.size ∧ P.len = j ∧ R.len + j = l ∧ R.size ≤ f.size ∧ Hid (Blk wr 60 g c ∧ OwnF wr 60 P g 0 bsP ∧ OwnF wr 60 R g (j * 3) bsR ∧ bsP ++ bsR = bs' ∧ P.app (markF R kj) = markF f k0 ∧ Tn w wr (g :: bs'))) (fun _ i _ => l - (intOf i).toNat)
    case atStart => exact ⟨0, .nil, f, [], bs', k0, Nat.zero_le _, rfl, rfl, hk0, rfl, rfl, by omega, Nat.le_refl _, H0.out.1, rfl, by simpa using H0.out.2.1, rfl, rfl, Tn.refl _ _⟩
    case round =>
      obtain ⟨j, P, R, bsP, bsR, kj, hj, rfl, rfl, hkj, hks, hPl, hRl, hRs, HR⟩ := hrel
      by_cases hlt : j < l
      · obtain ⟨q, hq⟩ : ∃ q, R.len = q + 1 := ⟨R.len - 1, by omega⟩
        obtain ⟨kk, nn, d, R', rfl, hR'⟩ := F.cons_of_len hq
        obtain ⟨hB, hP, hR, hbs, happ, htn⟩ := HR.out
        obtain ⟨bs1, bs2, a', l', c', rfl, c0, c1, c2, hd, hR2⟩ := hR.out
        have hnd := H0.out.2.2
        rw [← hbs] at hnd
        obtain ⟨hng, hnd'⟩ := List.nodup_cons.1 hnd
        obtain ⟨hndP, hnd12, hdisP⟩ := List.nodup_append.1 hnd'
        obtain ⟨hnd1, hnd2, hdis12⟩ := List.nodup_append.1 hnd12
        have e3 : j * 3 + 3 = (j + 1) * 3 := by omega
        rw [e3] at hR2
        have hds : d.size < m := by simp only [F.size] at hRs hm; omega
        have hRs' : R'.size ≤ f.size := by simp only [F.size] at hRs; omega
        simp only [F.size] at hks
        have f0 := hB.free (j * 3)
        have f1 := hB.free (j * 3 + 1)
        obtain ⟨hB2, hg2, ⟨t0, t1⟩, hoth⟩ := hB.put2 (j * 3) (by omega) (.int .i64 kj) (.int .i64 (kj + 1))
        have hne1 : ∀ x ∈ bs1, some x ≠ some g := fun x hx => by simp; rintro rfl; exact hng (List.mem_append_right _ (List.mem_append_left _ hx))
        have t2 := (hoth (j * 3 + 2) (.inr (by omega))).trans c2
        have CC : Hid _ := IH.out d a' l' c' bs1 (kj + 1 + 1) _ hds (hd.kept hg2 hne1) hnd1 (by omega) (by omega)
        have hPP := hP.move (w' := (wr.setCell ⟨g, j * 3, none⟩ (.int .i64 kj)).setCell ⟨g, j * 3 + 1, none⟩ (.int .i64 (kj + 1))) (b' := g) (off' := 0) (fun i hi => hoth _ (.inl (by omega))) (fun x hx => hg2.block x (hP.lt x hx) (by simp; rintro rfl; exact hng (List.mem_append_left _ hx)))
        have hRR := hR2.move (w' := (wr.setCell ⟨g, j * 3, none⟩ (.int .i64 kj)).setCell ⟨g, j * 3 + 1, none⟩ (.int .i64 (kj + 1))) (b' := g) (off' := (j + 1) * 3) (fun i hi => hoth _ (.inr (by omega))) (fun x hx => hg2.block x (hR2.lt x hx) (by simp; rintro rfl; exact hng (List.mem_append_right _ (List.mem_append_right _ hx))))
        have hbg : Tn w _ (g :: bs') := htn.trans ((Tn.row hg2).mono (fun x hx => by simp at hx; subst hx; simp))
        have FX : Hid (Blk _ 60 g c ∧ OwnF _ 60 P g 0 bsP ∧ OwnF _ 60 R' g ((j + 1) * 3) bs2 ∧ Tn w _ (g :: bs') ∧ (_ = some (Value.int .i64 kj) ∧ _ = some (Value.int .i64 (kj + 1)) ∧ _ = some (Value.slice a' l' c'))) := ⟨hB2, hPP, hRR, hbg, t0, t1, t2⟩
        have ND : Hid (g ∉ bs1 ∧ (∀ x ∈ bsP, x ∉ bs1) ∧ (∀ x ∈ bs2, x ∉ bs1) ∧ bsP ++ (bs1 ++ bs2) = bs') := ⟨fun hx => hng (List.mem_append_right _ (List.mem_append_left _ hx)), fun x hx hx1 => hdisP x hx x (List.mem_append_left _ hx1) rfl, fun x hx hx1 => hdis12 x hx1 x hx rfl, hbs⟩
        have AP : Hid (P.app (markF (.cons kk nn d R') kj) = markF f k0) := happ
        clear HR hB hP hR hbs happ htn hd hR2 hnd hng hnd' hndP hnd12 hdisP hnd1 hnd2 hdis12 hB2 hg2 t0 t1 hoth hne1 hPP hRR hbg IH H0 hRs
        go_wp2_with fail
        refine Calls.mono CC.out ?_
        rintro e u ⟨rfl, htn, hd⟩
        obtain ⟨hB, hP, hR, hbg, t0, t1, t2⟩ := FX.out
        obtain ⟨n1, n2, n3, hbs⟩ := ND.out
        have eg := htn.block g hB.lt n1
        have hP2 := hP.move (w' := u) (b' := g) (off' := 0) (fun i _ => cell_of_heap eg) (fun x hx => htn.block x (hP.lt x hx) (n2 x hx))
        have hR2 := hR.move (w' := u) (b' := g) (off' := (j + 1) * 3) (fun i _ => cell_of_heap eg) (fun x hx => htn.block x (hR.lt x hx) (n3 x hx))
        have hO := hP2.app (OwnF.one (b := g) (off := 0 + P.len * 3) (by rw [hPl, Nat.zero_add, cell_of_heap eg]; exact t0) (by rw [hPl, Nat.zero_add, cell_of_heap eg]; exact t1) (by rw [hPl, Nat.zero_add, cell_of_heap eg]; exact t2) hd)
        have hap : (P.app (.cons kj (kj + 1) (markF d (kj + 1 + 1)) .nil)).app (markF R' (kj + 1 + 1 + 2 * d.size)) = markF f k0 := by rw [F.app_assoc]; exact AP.out
        have hlP : (P.app (.cons kj (kj + 1) (markF d (kj + 1 + 1)) .nil)).len = j + 1 := by rw [F.app_len, hPl]; rfl
        have FY : Hid (Blk u 60 g c ∧ OwnF u 60 _ g 0 (bsP ++ bs1) ∧ OwnF u 60 R' g ((j + 1) * 3) bs2 ∧ (bsP ++ bs1) ++ bs2 = bs' ∧ _ = markF f k0 ∧ Tn w u (g :: bs')) := ⟨hB.of eg, hO, hR2, by rw [List.append_assoc]; exact hbs, hap, hbg.trans (htn.mono (fun x hx => by rw [← hbs]; exact List.mem_cons_of_mem _ (List.mem_append_right _ (List.mem_append_left _ hx))))⟩
        clear FX ND AP CC hB hP hR hbg t0 t1 t2 n1 n2 n3 hbs eg hP2 hR2 hO hap htn hd c0 c1 c2
        simp only []
        go_wp2
        go_roundw
        case rel => exact ⟨j + 1, _, R', _, bs2, _, by omega, by go_num, rfl, by omega, by omega, hlP, by omega, hRs', FY⟩
        case measure => simp [intOf]; omega
      · obtain rfl : j = l := by omega
        obtain rfl : R = .nil := F.nil_of_len (by omega)
        obtain ⟨hB, hP, hR, hbs, happ, htn⟩ := HR.out
        have hR' : bsR = [] := hR
        subst hR'
        rw [List.append_nil] at hbs
        subst hbs
        rw [markF, F.app_nil] at happ
        subst happ
        have hkk : Hid (kj = k0 + 2 * f.size) := by show _ = _; simp only [F.size] at hks; omega
        have FY : Hid _ := And.intro hB (And.intro hP htn)
        clear HR hB hP hR htn hks
        go_wp2
        go_ret
        exact ⟨by rw [← hkk.out]; rfl, FY.out.2.2, by rw [markF_len]; exact hfl, hl, hlc, .inr ⟨g, bsP, hp0, rfl, rfl, FY.out.1, FY.out.2.1⟩⟩

end Go.Proofs.YtpdkgmagjhibkaaGreatDoor.By

namespace Go.Proofs.YtpdkgmagjhibkaaGreatDoor.By
open Go.RowKit
set_option linter.unusedVariables false
set_option linter.unusedSimpArgs false

/-- What TyBytes answers. -/
def bytesV (k n : Int) (d : F) : List Int := if okT k n d = true then tyB k n d else []
/-- A row of bytes of our own, from block B on, or none. -/
def OwB (B : Nat) (w : World) (a : Option Addr) (n c : Nat) (zs : List Int) : Prop := w.ownsRow B 5 1 (.slice a n c) n (vals zs) ∧ zs.length = n
theorem OwB.reads {B n c : Nat} {w : World} {a : Option Addr} {zs : List Int} (h : OwB B w a n c zs) : Reads w a n zs := by
  obtain ⟨h, hl⟩ := h
  rcases h.2 with ⟨_, h0⟩ | ⟨g, cap, cur, e, _, hg, hn, _, hs, ht⟩
  · exact ⟨hl, .inl h0⟩
  · injection e with e1 e2 e3
    subst e1
    have hr : Row w g cap zs := ⟨cur, hg, by omega, by rw [hl]; simpa using ht, by omega⟩
    exact hr.reads' hl
theorem OwB.kept {B n c : Nat} {w u : World} {a : Option Addr} {zs : List Int} (h : OwB B w a n c zs) (hg : w.grownBy u none) : OwB B u a n c zs := ⟨h.1.kept hg (Classical.em _), h.2⟩
theorem OwB.of {B n c : Nat} {w u : World} {a : Option Addr} {zs : List Int} (h : OwB B w a n c zs) (hg : ∀ g cur, w.heap[g]? = some (.cells cur 5 (0, 0)) → some g = (Value.slice a n c).ownBlock → u.heap[g]? = w.heap[g]?) : OwB B u a n c zs := by
  obtain ⟨⟨h1, h⟩, hl⟩ := h
  refine ⟨⟨h1, ?_⟩, hl⟩
  rcases h with h | ⟨g, cap, cur, e, hB, hc, r⟩
  · exact .inl h
  · have e2 := hg g cur hc (by rw [e]; rfl)
    exact .inr ⟨g, cap, cur, e, hB, by rw [e2]; exact hc, r⟩
theorem OwB.mono {B B' n c : Nat} {w : World} {a : Option Addr} {zs : List Int} (h : OwB B w a n c zs) (hB : B' ≤ B) : OwB B' w a n c zs := by
  obtain ⟨⟨h1, h⟩, hl⟩ := h
  refine ⟨⟨h1, ?_⟩, hl⟩
  rcases h with h | ⟨g, cap, cur, e, hb, r⟩
  · exact .inl h
  · exact .inr ⟨g, cap, cur, e, Nat.le_trans hB hb, r⟩
theorem OwB.lt {B n c : Nat} {w : World} {a : Option Addr} {zs : List Int} (h : OwB B w a n c zs) : ∀ g, (Value.slice a n c).ownBlock = some g → B ≤ g ∧ g < w.heap.size := fun g hg => h.1.lt g hg
theorem OwB.nil (B : Nat) (w : World) : OwB B w none 0 0 [] := ⟨⟨rfl, .inl ⟨rfl, rfl⟩⟩, rfl⟩
theorem Acc.owB {B : Nat} {w : World} {v : Value} {zs : List Int} (h : Acc B w v zs) : ∃ a c, v = .slice a zs.length c ∧ OwB B w a zs.length c zs := by
  obtain ⟨g, cap, rfl, hB, hr, hm⟩ := h.row
  exact ⟨_, _, rfl, h.1, rfl⟩
/-- Marks on trees leave bytes as they were. -/
theorem SlO.blk {w : World} {t : TypeId} {f : F} {a : Option Addr} {l c : Nat} {bs : List Nat} (h : SlO w t a l c f bs) : ∀ g ∈ bs, ∃ cur, w.heap[g]? = some (.cells cur t (0, 0)) := by
  have key : ∀ (f : F) (b off : Nat) (bs : List Nat), OwnF w t f b off bs → ∀ g ∈ bs, ∃ cur, w.heap[g]? = some (.cells cur t (0, 0)) := by
    intro f
    induction f with
    | nil => intro b off bs h g hg; rw [show bs = [] from h] at hg; simp at hg
    | cons k n d r ihd ihr =>
      intro b off bs h g hg
      obtain ⟨bs1, bs2, rfl, ⟨a, l, c, h0, h1, h2, h3, h4, h5, h6⟩, hr⟩ := h
      rcases List.mem_append.1 hg with hg | hg
      · rcases h6 with ⟨_, rfl⟩ | ⟨g', bs', _, _, rfl, ⟨cur, hb, _⟩, h6⟩
        · simp at hg
        · rcases List.mem_cons.1 hg with rfl | hg
          · exact ⟨cur, hb⟩
          · exact ihd _ _ _ h6 g hg
      · exact ihr _ _ _ hr g hg
  obtain ⟨h1, h2, h3, h4⟩ := h
  intro g hg
  rcases h4 with ⟨_, rfl⟩ | ⟨g', bs', _, _, rfl, ⟨cur, hb, _⟩, h6⟩
  · simp at hg
  · rcases List.mem_cons.1 hg with rfl | hg
    · exact ⟨cur, hb⟩
    · exact key _ _ _ _ h6 g hg
theorem OwB.tn {B n c : Nat} {w u : World} {a : Option Addr} {zs : List Int} {bs : List Nat} (h : OwB B w a n c zs) (ht : Tn w u bs) (hb : ∀ g ∈ bs, ∃ cur, w.heap[g]? = some (.cells cur 60 (0, 0))) : OwB B u a n c zs :=
  h.of fun g cur hc _ => ht.block g (lt_of_block hc) (fun hm => by
    obtain ⟨cur', hc'⟩ := hb g hm
    rw [hc] at hc'
    injection hc' with hc'
    injection hc' with _ h2
    exact absurd h2 (by decide))
/-- Marks on a row leave every other row as it was. -/
theorem OwB.far {B B' n n' c c' : Nat} {w u : World} {a a' : Option Addr} {zs : List Int} (h : OwB B w a n c zs) (hg : w.grownBy u (Value.slice a' n' c').ownBlock) (hne : ∀ g, (Value.slice a n c).ownBlock = some g → (Value.slice a' n' c').ownBlock ≠ some g) : OwB B u a n c zs :=
  h.of fun g cur hc hb => hg.block g (lt_of_block hc) (fun e => hne g hb.symm e.symm)

set_option maxHeartbeats 400000 in
theorem markNilB (k0 : Int) (w : World) : Calls Tryz.prog 15 #[.slice none 0 0, .int .i64 k0] w fun e u => e = .returned (.int .i64 k0) ∧ w.grownBy u none := by
  go_enter Tryz.func15, Tryz.ntmps15
  go_wp2
  refine wp_loop_rounds 1 ?_
  rw [rounds_succ]
  go_wp2
  go_ret
  exact ⟨rfl, World.grownBy.refl _ _⟩

theorem markB (B n c : Nat) (a : Option Addr) (zs : List Int) (k0 : Int) (w : World) (h : OwB B w a n c zs) (hn : n ≤ 4194304) (hk0 : 0 ≤ k0) (hk1 : k0 ≤ 4194304) :
    Calls Tryz.prog 15 #[.slice a n c, .int .i64 k0] w fun e u => e = .returned (.int .i64 (k0 + n)) ∧ w.grownBy u (Value.slice a n c).ownBlock ∧ OwB B u a n c (marks k0 n) := by
  obtain ⟨⟨h1, h2⟩, hl⟩ := h
  rcases h2 with ⟨e, h0⟩ | ⟨g, cap, cur, e, hB, hc, hn', hm, hs, ht⟩
  · injection e with e1 e2 e3
    subst e1 e2 e3
    refine (markNilB k0 w).mono fun e u ⟨he, hg⟩ => ⟨by simpa using he, hg, ?_⟩
    have : marks k0 0 = [] := by simp [marks]
    rw [this]; exact OwB.nil _ _
  · injection e with e1 e2 e3
    subst e1 e3
    have hr : Row w g c zs := ⟨cur, hc, by omega, by rw [hl]; simpa using ht, by omega⟩
    refine (markT g n c zs k0 w hr hl hn hk0 hk1).mono fun e u ⟨he, hg, _, hr'⟩ => ⟨he, hg, ?_, marks_len _ _⟩
    exact own_row hr' (marks_len _ _) hB hm

set_option maxRecDepth 8000 in
set_option maxHeartbeats 1000000 in
theorem implTyBytesT (d : F) (k n : Int) (a : Option Addr) (l c : Nat) (w : World) (h : SlF w a l d) :
    Calls Tryz.prog 91 #[.agg #[.int .i64 k, .int .i64 n, .slice a l c]] w fun e u => ∃ a' c', e = .returned (.slice a' (bytesV k n d).length c') ∧ w.grownBy u none ∧ OwB w.heap.size u a' (bytesV k n d).length c' (bytesV k n d) := by
  have g0 : w.grownBy (w.alloc (.cells #[.int .i64 k, .int .i64 n, .slice a l c] 60)) none := World.grownBy_alloc _ _ _
  have b0 := heap_alloc_new w (.cells #[.int .i64 k, .int .i64 n, .slice a l c] 60)
  have CC : Hid _ := implTyOkT d k n a l c _ (h.none g0)
  have FX : Hid (w.grownBy _ none ∧ SlF _ a l d ∧ _ = some (Obj.cells #[.int .i64 k, .int .i64 n, .slice a l c] 60)) := ⟨g0, h.none g0, b0⟩
  have hfl := h.1
  clear h g0 b0
  go_enter Tryz.func91, Tryz.ntmps91
  go_wp2_with fail
  refine Calls.mono CC.out ?_
  rintro e u ⟨rfl, hg⟩
  obtain ⟨g0, h, b0⟩ := FX.out
  have FY : Hid (w.grownBy u none ∧ SlF u a l d ∧ _ = some (Obj.cells #[.int .i64 k, .int .i64 n, .slice a l c] 60)) := ⟨grown_trans g0 hg, h.none hg, (hg.block _ (lt_of_block b0) (by simp)).trans b0⟩
  clear FX hg CC g0 h b0
  simp only []
  cases hb : okT k n d with
  | false =>
    have E : Hid (bytesV k n d = []) := by show _ = _; unfold bytesV; rw [hb]; rfl
    go_wp2
    go_ret
    exact ⟨none, 0, by rw [E.out]; rfl, FY.out.1, by rw [E.out]; exact OwB.nil _ _⟩
  | true =>
    have E : Hid (bytesV k n d = tyB k n d) := by show _ = _; unfold bytesV; rw [if_pos hb]
    have hb' := hb
    simp only [okT, Bool.and_eq_true, decide_eq_true_eq] at hb'
    have C2 : Hid _ := addBytesT u (d.size + 1) d k n a l c (.slice none 0 0) [] u 9 (Nat.lt_succ_self _) FY.out.2.1 (Below.refl _ _) ⟨rfl, .inl ⟨rfl, rfl⟩⟩ (by rw [← hfl]; exact hb'.1.1) hb'.1.2 (by simp; omega)
    obtain ⟨⟨x0, x1, x2⟩, -⟩ := three FY.out.2.2
    clear hb' hb
    go_wp2_with fail
    refine Calls.mono C2.out ?_
    rintro e u2 ⟨v', rfl, hA, hF⟩
    simp only [List.nil_append] at hA
    obtain ⟨a', c', rfl, hO⟩ := hA.owB
    have FIN : Hid (w.grownBy u2 none ∧ OwB w.heap.size u2 a' (tyB k n d).length c' (tyB k n d)) := ⟨grown_trans FY.out.1 (grown_of_below hF.below), hO.mono FY.out.1.size⟩
    clear C2 FY hA hF hO x0 x1 x2
    simp only []
    go_wp2
    go_ret
    exact ⟨a', c', by rw [E.out]; rfl, FIN.out.1, by rw [E.out]; exact FIN.out.2⟩

theorem bytesV_len (k n : Int) (d : F) : (bytesV k n d).length ≤ 660 := by
  unfold bytesV
  by_cases h : okT k n d = true
  · rw [if_pos h]
    simp only [okT, Bool.and_eq_true, decide_eq_true_eq] at h
    have h1 := headB_len k n d.len
    have h2 := bytesF_len d
    rw [tyB, List.length_append]; omega
  · rw [if_neg h]; simp
theorem eqB2 (a a' : Option Addr) (n c c' : Nat) (zs : List Int) (w : World) (h : Reads w a n zs) (h' : Reads w a' n zs) (hn : n ≤ 4194304) :
    Calls Tryz.prog 13 #[.slice a n c, .slice a' n c'] w fun e u => e = .returned (.bool true) ∧ w.grownBy u none :=
  (eqT a a' n c c' zs w h h' hn).mono fun e u ⟨he, hq⟩ => ⟨he, quiet hq⟩
theorem heldB2 (a : Option Addr) (n c : Nat) (k0 : Int) (w : World) (h : Reads w a n (marks k0 n)) (hn : n ≤ 4194304) (hk0 : 0 ≤ k0) (hk1 : k0 ≤ 4194304) :
    Calls Tryz.prog 16 #[.slice a n c, .int .i64 k0] w fun e u => e = .returned (.int .i64 (k0 + n)) ∧ w.grownBy u none :=
  (heldT a n c k0 w h hn hk0 hk1).mono fun e u ⟨he, hq⟩ => ⟨he, quiet hq⟩
/-- A block that is no row of bytes is far from one that is. -/
theorem OwB.box {B n c p : Nat} {w u : World} {a : Option Addr} {zs : List Int} {cur : Array Value} {t : TypeId} {r : Nat × Nat} (h : OwB B w a n c zs) (hg : w.grownBy u (Value.slice a n c).ownBlock) (hp : w.heap[p]? = some (.cells cur t r)) (ht : t ≠ 5) : u.heap[p]? = some (.cells cur t r) := by
  refine (hg.block p (lt_of_block hp) (fun e => ?_)).trans hp
  rcases h.1.2 with ⟨e1, _⟩ | ⟨g, cap, cur', e1, _, hc, _⟩
  · rw [e1] at e; cases e
  · rw [e1] at e
    injection e with e
    subst e
    rw [hc] at hp
    injection hp with hp
    injection hp with _ h2
    exact ht h2.symm
theorem OwB.grown {A B n c : Nat} {v w u : World} {a : Option Addr} {zs : List Int} (h : OwB B w a n c zs) (hg : w.grownBy u (Value.slice a n c).ownBlock) (h0 : v.grownBy w none) (hA : v.heap.size ≤ B) : v.grownBy u none :=
  ⟨hg.os.trans h0.os, hg.tape.trans h0.tape, hg.output.trans h0.output, Nat.le_trans h0.size hg.size, fun i hi _ => (hg.block i (Nat.lt_of_lt_of_le hi h0.size) (fun e => by have := (h.lt i e.symm).1; omega)).trans (h0.block i hi (by simp))⟩
end Go.Proofs.YtpdkgmagjhibkaaGreatDoor.By

namespace Go.Proofs.YtpdkgmagjhibkaaGreatDoor.By
open Go.RowKit
set_option linter.unusedVariables false
set_option linter.unusedSimpArgs false

def isPl : Obj → Bool
  | .cells _ _ fr => decide (fr = (0, 0))
  | _ => false
/-- A world with all blocks below lo, and all that are frozen or no cells, made empty. -/
def hideZ (w : World) (lo : Nat) : World := { w with heap := w.heap.mapIdx fun i o => if lo ≤ i ∧ isPl o = true then o else .map #[] 0 }
theorem hideZ_heap {w : World} {lo i : Nat} {cur : Array Value} {t : TypeId} (h : lo ≤ i) (hb : w.heap[i]? = some (.cells cur t (0, 0))) : (hideZ w lo).heap[i]? = some (.cells cur t (0, 0)) := by
  unfold hideZ
  rw [Array.getElem?_mapIdx, hb]
  simp [h, isPl]
theorem hideZ_inv {w : World} {lo : Nat} {p : Addr} {v : Value} (h : (hideZ w lo).cell? p = some v) : lo ≤ p.block ∧ w.cell? p = some v ∧ ∃ cur t, w.heap[p.block]? = some (.cells cur t (0, 0)) := by
  have key : ((hideZ w lo).heap[p.block]? = none ∨ (hideZ w lo).heap[p.block]? = some (.map #[] 0)) ∨ (lo ≤ p.block ∧ ∃ cur t, w.heap[p.block]? = some (.cells cur t (0, 0))) := by
    unfold hideZ
    rw [Array.getElem?_mapIdx]
    cases hb : w.heap[p.block]? with
    | none => exact .inl (.inl rfl)
    | some o =>
      by_cases hc : lo ≤ p.block ∧ isPl o = true
      · refine .inr ⟨hc.1, ?_⟩
        cases o with
        | cells cur t fr =>
          have := hc.2
          simp only [isPl, decide_eq_true_eq] at this
          subst this
          exact ⟨cur, t, rfl⟩
        | _ => exact absurd hc.2 (by simp [isPl])
      · refine .inl (.inr ?_)
        show some (if lo ≤ p.block ∧ isPl o = true then o else .map #[] 0) = _
        rw [if_neg hc]
  obtain ⟨b, off, s⟩ := p
  rcases key with (e | e) | ⟨h1, cur, t, h2⟩
  · simp [World.cell?, e] at h
  · simp [World.cell?, e] at h
  · refine ⟨h1, ?_, cur, t, h2⟩
    rw [← h]
    exact (cell_any (p := ⟨b, off, s⟩) ((hideZ_heap h1 h2).trans h2.symm)).symm
theorem CLe.hidz {u u' : World} {lo lo' : Nat} (hl : lo' ≤ lo) (h : ∀ i, lo ≤ i → i < u.heap.size → u'.heap[i]? = u.heap[i]?) : CLe (hideZ u lo) (hideZ u' lo') := by
  intro p v hv
  obtain ⟨h1, h2, cur, t, h3⟩ := hideZ_inv hv
  have e := h p.block h1 (lt_of_block h3)
  have h4 := hideZ_heap (w := u') (Nat.le_trans hl h1) (e.trans h3)
  rw [cell_any (w := u) (h4.trans h3.symm)]
  exact h2
theorem CLe.unhidz {u : World} {lo : Nat} : CLe (hideZ u lo) u := fun p v hv => (hideZ_inv hv).2.1
theorem Row.hiz {w : World} {g n lo : Nat} {zs : List Int} (h : Row w g n zs) (hz : Byt zs) (hl : zs.length = n) (hn : n ≤ 1048576) (hg : lo ≤ g) : RdB (hideZ w lo) (some ⟨g, 0, none⟩) n zs := by
  obtain ⟨cur, hc, hr⟩ := h
  have h2 : Row (hideZ w lo) g n zs := ⟨cur, hideZ_heap hg hc, hr⟩
  exact ⟨h2.reads' hl, hz, by omega⟩
theorem RowI.hizn {w : World} {t : TypeId} {g n lo : Nat} {zs : List Int} (h : RowI w t g n zs) (hl : zs.length = n) (hn : n ≤ 1048576) (hg : lo ≤ g) : RdI (hideZ w lo) (some ⟨g, 0, none⟩) n zs := by
  obtain ⟨cur, hc, hr⟩ := h
  have h2 : RowI (hideZ w lo) t g n zs := ⟨cur, hideZ_heap hg hc, hr⟩
  exact ⟨h2.reads' hl, by omega⟩
theorem New.hiz {w u : World} {t : TypeId} {a : Option Addr} {l c lo : Nat} {f : F} {bs : List Nat} (h : New w u t a l c f bs) (hl : lo ≤ w.heap.size) : SlF (hideZ u lo) a l f :=
  (h.1.of (w' := hideZ u lo) (fun x hx => by
    obtain ⟨cur, hc⟩ := h.1.blk x hx
    exact (hideZ_heap (Nat.le_trans hl (h.2.2 x hx)) hc).trans hc.symm)).reads
theorem hideZ_cell {w : World} {lo i j k : Nat} {t : TypeId} (h : lo ≤ i) (hB : BlkN w t i k) : (hideZ w lo).cell? ⟨i, j, none⟩ = w.cell? ⟨i, j, none⟩ := by
  obtain ⟨cur, hc, _⟩ := hB
  exact cell_any (p := ⟨i, j, none⟩) ((hideZ_heap h hc).trans hc.symm)
theorem hiz_grown {w u : World} {lo : Nat} (h : w.grownBy u none) : CLe (hideZ w lo) (hideZ u lo) := CLe.hidz (Nat.le_refl _) (fun i _ h2 => h.block i h2 (by simp))
theorem hiz_into {w u : World} {lo p : Nat} (h : w.grownBy u (some p)) (hp : p < lo) : CLe (hideZ w lo) (hideZ u lo) := CLe.hidz (Nat.le_refl _) (fun i h1 h2 => h.block i h2 (by simp; omega))
theorem hiz_low {w : World} {lo lo' : Nat} (h : lo' ≤ lo) : CLe (hideZ w lo) (hideZ w lo') := CLe.hidz h (fun _ _ _ => rfl)
end Go.Proofs.YtpdkgmagjhibkaaGreatDoor.By

namespace Go.Proofs.YtpdkgmagjhibkaaGreatDoor.By
open Go.RowKit
set_option linter.unusedVariables false
set_option linter.unusedSimpArgs false

theorem szTsW (d : F) (a : Option Addr) (l c : Nat) (L : Int) (w : World) (h : SlF w a l d) (h0 : 0 ≤ L) (h1 : L ≤ 1048576) :
    Calls Tryz.prog 67 #[.slice a l c, .int .i64 L] w fun e u => SzW L d.size e ∧ w.grownBy u none := by
  refine (szS d.size d a l c L w (Nat.le_refl _) h h0 h1).mono ?_
  rintro e u ⟨he, hg⟩
  refine ⟨⟨_, he, ?_⟩, hg⟩
  unfold szV
  split
  · exact .inr ⟨by omega, by omega⟩
  · exact .inl rfl

theorem toTsW (d : F) (a : Option Addr) (l c : Nat) (w : World) (h : SlF w a l d) (hs : d.size ≤ 1048576) :
    Calls Tryz.prog 78 #[.slice a l c] w fun e u => ∃ a' c', e = .returned (.slice a' l c') ∧ w.grownBy u none ∧ SlF (hideZ u w.heap.size) a' l d := by
  refine (toS d.size d a l c w (Nat.le_refl _) hs h).mono ?_
  rintro e u ⟨a', c', bs, he, hg, hN⟩
  exact ⟨a', c', he, hg, hN.hiz (Nat.le_refl _)⟩
end Go.Proofs.YtpdkgmagjhibkaaGreatDoor.By
