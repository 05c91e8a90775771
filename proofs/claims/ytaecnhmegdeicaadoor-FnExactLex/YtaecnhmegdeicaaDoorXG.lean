/-
  Pieces: impl.pieceToken. No statement is proved here.
-/
import Derived.Test.YtaecnhmegdeicaaDoorXF
namespace Go.Proofs.YtaecnhmegdeicaaDoor.By
open Go.RowKit
set_option linter.unusedVariables false
set_option linter.unusedSimpArgs false

def wordZ (zs : List Int) : Bool := wordV 97 122 zs || wordV 65 90 zs || decide (zs = [95]) || varWV zs
/-- The token that a piece is. -/
def pieceV (zs : List Int) : Option RToken := match wholeZ zs with
  | some n => some ⟨4, 0, n, []⟩
  | none => if wordZ zs = true then some ⟨3, 0, 0, zs⟩ else none
/-- A token of our own. -/
def TokR (u : World) (B : Nat) (v : Value) (x : RToken) : Prop := ∃ a l c, v = .agg #[.int .i64 x.kind, .int .i64 x.pos, .int .i64 x.n, .slice a l c] ∧ u.ownsRow B 5 1 (.slice a l c) l (vB x.text) ∧ Byt x.text ∧ l ≤ 1048576
theorem own_keptX {z u : World} {B l p : Nat} {a : Option Addr} {c : Nat} {vs cs : List Value} {t : TypeId} (h : z.ownsRow B 5 1 (.slice a l c) l vs) (kf : z.grownBy u (some p)) (hp : z.heap[p]? = some (.cells cs.toArray t (0, 0))) (ht : t ≠ 5) : u.ownsRow B 5 1 (.slice a l c) l vs := by
  refine h.kept kf ?_
  rcases h.2 with ⟨e1, -⟩ | ⟨g, cap, cur, e1, -, hb', -⟩
  · left; rw [e1]; rfl
  · right; rw [e1]; intro e2
    have e3 : g = p := by simpa [Value.ownBlock] using e2
    subst e3
    rw [hp] at hb'
    cases hb'
    exact ht rfl


set_option maxRecDepth 8000 in
set_option maxHeartbeats 4000000 in
theorem pieceT (b o l c : Nat) (zs : List Int) (w : World) (h : RdB w (some ⟨b, o, none⟩) l zs) (hcs : ∀ i, i < l → w.cell? ⟨b, o + i, none⟩ = some (.int .u8 (zs.getD i 0))) (hl : l ≤ 100000) (hE : EnvX w) :
    Calls Tryd.prog 26 #[.slice (some ⟨b, o, none⟩) l c] w fun e u => w.grownBy u none ∧ ((pieceV zs = none ∧ e = .returned (.tuple #[.agg #[.int .i64 0, .int .i64 0, .int .i64 0, .slice none 0 0], .bool false])) ∨ ∃ x v, pieceV zs = some x ∧ e = .returned (.tuple #[v, .bool true]) ∧ TokR u w.heap.size v x) := by
  have g0 := World.grownBy_alloc w (.cells #[.int .i64 0, .int .i64 0, .int .i64 0, .slice none 0 0] 33) none
  have b0 := heap_alloc_new w (.cells #[.int .i64 0, .int .i64 0, .int .i64 0, .slice none 0 0] 33)
  have CW : Hid _ := wholeT b o l c zs _ (h.none g0) hl (hE.none g0)
  have HB : Hid (w.grownBy (w.alloc (.cells #[.int .i64 0, .int .i64 0, .int .i64 0, .slice none 0 0] 33)) none ∧ (w.alloc (.cells #[.int .i64 0, .int .i64 0, .int .i64 0, .slice none 0 0] 33)).heap[w.heap.size]? = some (Obj.cells #[.int .i64 0, .int .i64 0, .int .i64 0, .slice none 0 0] 33 (0, 0))) := ⟨g0, b0⟩
  clear g0 b0
  have HH : Hid (RdB w (some ⟨b, o, none⟩) l zs ∧ EnvX w ∧ ∀ i, i < l → w.cell? ⟨b, o + i, none⟩ = some (.int .u8 (zs.getD i 0))) := ⟨h, hE, hcs⟩
  clear h hE hcs
  go_enter Tryd.func26, Tryd.ntmps26
  go_wp2_with fail
  refine Calls.mono CW.out ?_
  rintro e u ⟨rfl, hg⟩
  have HG : Hid (w.grownBy u none ∧ u.heap[w.heap.size]? = some (Obj.cells #[.int .i64 0, .int .i64 0, .int .i64 0, .slice none 0 0] 33 (0, 0))) := ⟨grown_trans HB.out.1 hg, (hg.block _ (lt_of_block HB.out.2) (by simp)).trans HB.out.2⟩
  clear CW hg HB
  have HS : Hid (w.heap.size ≤ w.heap.size) := Nat.le_refl _
  cases hz : wholeZ zs with
  | some n =>
    have HP : Hid (pieceV zs = some ⟨4, 0, n, []⟩) := by show _ = _; unfold pieceV; rw [hz]
    simp only [Option.getD_some, Option.isSome_some]
    clear hz
    obtain ⟨⟨y0, y1, y2, y3⟩, hfz⟩ := blkToken HG.out.2
    have fz0 := hfz 0
    have fz1 := hfz 1
    have fz2 := hfz 2
    have fz3 := hfz 3
    obtain ⟨mf, kf⟩ := fillToken (.int .i64 4) (.int .i64 0) (.int .i64 n) (.slice none 0 0) HG.out.2
    have FQ : Hid _ := And.intro mf (And.intro (grown_into HG.out.1 kf HS.out) kf)
    clear mf kf hfz
    go_wp2_with fail
    (try simp only [Exit.inBlock, Exit.then])
    refine bodyPost_ret (results_cellU (P := Tryd.prog) Tryd.results26 _ _ _ _ _ _ _ rfl FQ.out.1 Tryd.underlying33 rfl (by kernel_rfl)) rfl ?_
    exact ⟨FQ.out.2.1, .inr ⟨_, _, HP.out, rfl, none, 0, 0, rfl, ⟨rfl, .inl ⟨rfl, rfl⟩⟩, (fun z hz => by simp at hz), by omega⟩⟩
  | none =>
    simp only [Option.getD_none, Option.isSome_none]
    have HZ0 : Hid (wholeZ zs = none) := hz
    clear hz
    have C1 : Hid _ := isSmallT (some ⟨b, o, none⟩) l c zs u (HH.out.1.none HG.out.1)
    go_wp2_with fail
    refine Calls.mono C1.out ?_
    rintro e u1 ⟨rfl, hg1⟩
    have HG1 : Hid (w.grownBy u1 none ∧ u1.heap[w.heap.size]? = some (Obj.cells #[.int .i64 0, .int .i64 0, .int .i64 0, .slice none 0 0] 33 (0, 0))) := ⟨grown_trans HG.out.1 hg1, (hg1.block _ (lt_of_block HG.out.2) (by simp)).trans HG.out.2⟩
    clear C1 hg1 HG
    rcases bool_ex (wordV 97 122 zs) with h1 | h1
    · have HW : Hid (wordZ zs = true) := by show _ = _; unfold wordZ; rw [h1]; rfl
      rw [h1]
      clear h1
      have CF : Hid _ := freshBT b o l c zs u1 HH.out.1.1.1 (fun i hi => HG1.out.1.cell (HH.out.2.2 i hi) (by simp)) (by omega)
      have HP : Hid (pieceV zs = some ⟨3, 0, 0, zs⟩) := by show _ = _; unfold pieceV; rw [HZ0.out]; rw [if_pos HW.out]
      go_wp2_with fail
      refine Calls.mono CF.out ?_
      rintro e z ⟨af, cf, rfl, hgf, hof⟩
      have HZ : Hid ((w.grownBy z none ∧ z.heap[w.heap.size]? = some (Obj.cells #[.int .i64 0, .int .i64 0, .int .i64 0, .slice none 0 0] 33 (0, 0))) ∧ z.ownsRow w.heap.size 5 1 (.slice af l cf) l (vB zs)) := ⟨⟨grown_trans HG1.out.1 hgf, (hgf.block _ (lt_of_block HG1.out.2) (by simp)).trans HG1.out.2⟩, Go.Joins.ownsRow_le hof HG1.out.1.size⟩
      clear CF hgf hof
      obtain ⟨⟨y0, y1, y2, y3⟩, hfz⟩ := blkToken HZ.out.1.2
      have fz0 := hfz 0
      have fz1 := hfz 1
      have fz2 := hfz 2
      have fz3 := hfz 3
      obtain ⟨mf, kf⟩ := fillToken (.int .i64 3) (.int .i64 0) (.int .i64 0) (.slice af l cf) HZ.out.1.2
      have FQ : Hid _ := And.intro mf (And.intro (grown_into HZ.out.1.1 kf HS.out) kf)
      clear mf kf hfz
      go_wp2_with fail
      (try simp only [Exit.inBlock, Exit.then])
      refine bodyPost_ret (results_cellU (P := Tryd.prog) Tryd.results26 _ _ _ _ _ _ _ rfl FQ.out.1 Tryd.underlying33 rfl (by kernel_rfl)) rfl ?_
      exact ⟨FQ.out.2.1, .inr ⟨_, _, HP.out, rfl, af, l, cf, rfl, own_keptX HZ.out.2 FQ.out.2.2 HZ.out.1.2 (by decide), HH.out.1.2.1, by omega⟩⟩
    rw [h1]
    have C2 : Hid _ := isGreatT (some ⟨b, o, none⟩) l c zs u1 (HH.out.1.none HG1.out.1)
    go_wp2_with fail
    refine Calls.mono C2.out ?_
    rintro e u2 ⟨rfl, hg2⟩
    have HG2 : Hid (w.grownBy u2 none ∧ u2.heap[w.heap.size]? = some (Obj.cells #[.int .i64 0, .int .i64 0, .int .i64 0, .slice none 0 0] 33 (0, 0))) := ⟨grown_trans HG1.out.1 hg2, (hg2.block _ (lt_of_block HG1.out.2) (by simp)).trans HG1.out.2⟩
    clear C2 hg2 HG1
    rcases bool_ex (wordV 65 90 zs) with h2 | h2
    · have HW : Hid (wordZ zs = true) := by show _ = _; unfold wordZ; rw [h1, h2]; rfl
      rw [h2]
      clear h1 h2
      have CF : Hid _ := freshBT b o l c zs u2 HH.out.1.1.1 (fun i hi => HG2.out.1.cell (HH.out.2.2 i hi) (by simp)) (by omega)
      have HP : Hid (pieceV zs = some ⟨3, 0, 0, zs⟩) := by show _ = _; unfold pieceV; rw [HZ0.out]; rw [if_pos HW.out]
      go_wp2_with fail
      refine Calls.mono CF.out ?_
      rintro e z ⟨af, cf, rfl, hgf, hof⟩
      have HZ : Hid ((w.grownBy z none ∧ z.heap[w.heap.size]? = some (Obj.cells #[.int .i64 0, .int .i64 0, .int .i64 0, .slice none 0 0] 33 (0, 0))) ∧ z.ownsRow w.heap.size 5 1 (.slice af l cf) l (vB zs)) := ⟨⟨grown_trans HG2.out.1 hgf, (hgf.block _ (lt_of_block HG2.out.2) (by simp)).trans HG2.out.2⟩, Go.Joins.ownsRow_le hof HG2.out.1.size⟩
      clear CF hgf hof
      obtain ⟨⟨y0, y1, y2, y3⟩, hfz⟩ := blkToken HZ.out.1.2
      have fz0 := hfz 0
      have fz1 := hfz 1
      have fz2 := hfz 2
      have fz3 := hfz 3
      obtain ⟨mf, kf⟩ := fillToken (.int .i64 3) (.int .i64 0) (.int .i64 0) (.slice af l cf) HZ.out.1.2
      have FQ : Hid _ := And.intro mf (And.intro (grown_into HZ.out.1.1 kf HS.out) kf)
      clear mf kf hfz
      go_wp2_with fail
      (try simp only [Exit.inBlock, Exit.then])
      refine bodyPost_ret (results_cellU (P := Tryd.prog) Tryd.results26 _ _ _ _ _ _ _ rfl FQ.out.1 Tryd.underlying33 rfl (by kernel_rfl)) rfl ?_
      exact ⟨FQ.out.2.1, .inr ⟨_, _, HP.out, rfl, af, l, cf, rfl, own_keptX HZ.out.2 FQ.out.2.2 HZ.out.1.2 (by decide), HH.out.1.2.1, by omega⟩⟩
    rw [h2]
    have hcv : (convert 22 9 (.slice (some ⟨b, o, none⟩) l c)).run Tryd.prog u2 = .ok (.string (strOfNums zs)) u2 := conv_run (HH.out.1.none HG2.out.1).1
    have hcmp : ((strOfNums zs).toList == [95]) = decide (zs = [95]) := by
      rw [← (show ByteArray.toList { data := #[95] } = [95] by simp), toL_beq]
      exact str_eq (ys := [95]) HH.out.1.2.1 (by intro z hz; simp at hz; omega)
    rcases bool_ex (decide (zs = [95])) with h3 | h3
    · have HW : Hid (wordZ zs = true) := by show _ = _; unfold wordZ; rw [h1, h2, h3]; rfl
      rw [h3] at hcmp
      clear h1 h2 h3
      have CF : Hid _ := freshBT b o l c zs u2 HH.out.1.1.1 (fun i hi => HG2.out.1.cell (HH.out.2.2 i hi) (by simp)) (by omega)
      have HP : Hid (pieceV zs = some ⟨3, 0, 0, zs⟩) := by show _ = _; unfold pieceV; rw [HZ0.out]; rw [if_pos HW.out]
      go_wp2_with fail
      refine Calls.mono CF.out ?_
      rintro e z ⟨af, cf, rfl, hgf, hof⟩
      have HZ : Hid ((w.grownBy z none ∧ z.heap[w.heap.size]? = some (Obj.cells #[.int .i64 0, .int .i64 0, .int .i64 0, .slice none 0 0] 33 (0, 0))) ∧ z.ownsRow w.heap.size 5 1 (.slice af l cf) l (vB zs)) := ⟨⟨grown_trans HG2.out.1 hgf, (hgf.block _ (lt_of_block HG2.out.2) (by simp)).trans HG2.out.2⟩, Go.Joins.ownsRow_le hof HG2.out.1.size⟩
      clear CF hgf hof
      obtain ⟨⟨y0, y1, y2, y3⟩, hfz⟩ := blkToken HZ.out.1.2
      have fz0 := hfz 0
      have fz1 := hfz 1
      have fz2 := hfz 2
      have fz3 := hfz 3
      obtain ⟨mf, kf⟩ := fillToken (.int .i64 3) (.int .i64 0) (.int .i64 0) (.slice af l cf) HZ.out.1.2
      have FQ : Hid _ := And.intro mf (And.intro (grown_into HZ.out.1.1 kf HS.out) kf)
      clear mf kf hfz
      go_wp2_with fail
      (try simp only [Exit.inBlock, Exit.then])
      refine bodyPost_ret (results_cellU (P := Tryd.prog) Tryd.results26 _ _ _ _ _ _ _ rfl FQ.out.1 Tryd.underlying33 rfl (by kernel_rfl)) rfl ?_
      exact ⟨FQ.out.2.1, .inr ⟨_, _, HP.out, rfl, af, l, cf, rfl, own_keptX HZ.out.2 FQ.out.2.2 HZ.out.1.2 (by decide), HH.out.1.2.1, by omega⟩⟩
    have CV : Hid _ := isVarT b o l c zs u2 HH.out.1.1.1 (fun i hi => HG2.out.1.cell (HH.out.2.2 i hi) (by simp))
    have hcmp2 := hcmp
    rw [h3] at hcmp
    go_wp2_with fail
    refine Calls.mono CV.out ?_
    rintro e u3 ⟨rfl, rfl⟩
    clear CV hcv hcmp hcmp2
    rcases bool_ex (varWV zs) with h4 | h4
    · have HW : Hid (wordZ zs = true) := by show _ = _; unfold wordZ; rw [h1, h2, h3, h4]; rfl
      rw [h4]
      clear h1 h2 h3 h4
      have CF : Hid _ := freshBT b o l c zs u3 HH.out.1.1.1 (fun i hi => HG2.out.1.cell (HH.out.2.2 i hi) (by simp)) (by omega)
      have HP : Hid (pieceV zs = some ⟨3, 0, 0, zs⟩) := by show _ = _; unfold pieceV; rw [HZ0.out]; rw [if_pos HW.out]
      go_wp2_with fail
      refine Calls.mono CF.out ?_
      rintro e z ⟨af, cf, rfl, hgf, hof⟩
      have HZ : Hid ((w.grownBy z none ∧ z.heap[w.heap.size]? = some (Obj.cells #[.int .i64 0, .int .i64 0, .int .i64 0, .slice none 0 0] 33 (0, 0))) ∧ z.ownsRow w.heap.size 5 1 (.slice af l cf) l (vB zs)) := ⟨⟨grown_trans HG2.out.1 hgf, (hgf.block _ (lt_of_block HG2.out.2) (by simp)).trans HG2.out.2⟩, Go.Joins.ownsRow_le hof HG2.out.1.size⟩
      clear CF hgf hof
      obtain ⟨⟨y0, y1, y2, y3⟩, hfz⟩ := blkToken HZ.out.1.2
      have fz0 := hfz 0
      have fz1 := hfz 1
      have fz2 := hfz 2
      have fz3 := hfz 3
      obtain ⟨mf, kf⟩ := fillToken (.int .i64 3) (.int .i64 0) (.int .i64 0) (.slice af l cf) HZ.out.1.2
      have FQ : Hid _ := And.intro mf (And.intro (grown_into HZ.out.1.1 kf HS.out) kf)
      clear mf kf hfz
      go_wp2_with fail
      (try simp only [Exit.inBlock, Exit.then])
      refine bodyPost_ret (results_cellU (P := Tryd.prog) Tryd.results26 _ _ _ _ _ _ _ rfl FQ.out.1 Tryd.underlying33 rfl (by kernel_rfl)) rfl ?_
      exact ⟨FQ.out.2.1, .inr ⟨_, _, HP.out, rfl, af, l, cf, rfl, own_keptX HZ.out.2 FQ.out.2.2 HZ.out.1.2 (by decide), HH.out.1.2.1, by omega⟩⟩
    have HP : Hid (pieceV zs = none) := by show _ = _; unfold pieceV; rw [HZ0.out]; unfold wordZ; rw [h1, h2, h3, h4]; rfl
    rw [h4]
    clear h1 h2 h3 h4
    obtain ⟨⟨y0, y1, y2, y3⟩, hfz⟩ := blkToken HG2.out.2
    have fz0 := hfz 0
    have fz1 := hfz 1
    have fz2 := hfz 2
    have fz3 := hfz 3
    obtain ⟨mf, kf⟩ := fillToken (.int .i64 0) (.int .i64 0) (.int .i64 0) (.slice none 0 0) HG2.out.2
    have FQ : Hid _ := And.intro mf (And.intro (grown_into HG2.out.1 kf HS.out) kf)
    clear mf kf hfz
    go_wp2_with fail
    (try simp only [Exit.inBlock, Exit.then])
    refine bodyPost_ret (results_cellU (P := Tryd.prog) Tryd.results26 _ _ _ _ _ _ _ rfl FQ.out.1 Tryd.underlying33 rfl (by kernel_rfl)) rfl ?_
    exact ⟨FQ.out.2.1, .inl ⟨HP.out, rfl⟩⟩
end Go.Proofs.YtaecnhmegdeicaaDoor.By
