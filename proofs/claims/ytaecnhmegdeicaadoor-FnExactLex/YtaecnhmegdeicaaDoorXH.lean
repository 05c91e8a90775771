/-
  Literals: impl.literalToken. No statement is proved here.
-/
import Derived.Test.YtaecnhmegdeicaaDoorXG
namespace Go.Proofs.YtaecnhmegdeicaaDoor.By
open Go.RowKit
set_option linter.unusedVariables false
set_option linter.unusedSimpArgs false

/-- How many bytes stand ahead of the first mark. -/
def qN (zs : List Int) : Nat := (zs.takeWhile fun z => !decide (z = 34)).length
theorem qN_le : ∀ zs : List Int, qN zs ≤ zs.length
  | [] => Nat.le_refl _
  | z :: r => by
    have := qN_le r
    unfold qN at *
    rw [List.takeWhile_cons]
    split
    · simp only [List.length_cons]; omega
    · simp
theorem index34 : ∀ zs : List Int, Byt zs → Lib.indexByte (Lib.bytesOf zs) 34 = if qN zs = zs.length then -1 else (qN zs : Int)
  | [], _ => rfl
  | z :: r, h => by
    have ih := index34 r (fun x hx => h x (by simp [hx]))
    have hz := h z (by simp)
    have hle := qN_le r
    have e0 : Lib.bytesOf (z :: r) = UInt8.ofNat z.toNat :: Lib.bytesOf r := rfl
    have eq : ∀ b : Bool, (!decide (z = 34)) = b → qN (z :: r) = if b = true then qN r + 1 else 0 := fun b hb => by
      unfold qN
      rw [List.takeWhile_cons, hb]
      cases b <;> rfl
    rw [e0]
    by_cases hq : z = 34
    · subst hq
      rw [eq false (by decide)]
      rfl
    · have hb : ¬ UInt8.ofNat z.toNat = 34 := fun e => by
        have := congrArg UInt8.toNat e
        rw [UInt8.toNat_ofNat'] at this
        have e2 : (34 : UInt8).toNat = 34 := rfl
        omega
      rw [eq true (by simp [hq])]
      unfold Lib.indexByte
      rw [if_neg (by simpa using hb), ih]
      simp only [if_true, List.length_cons]
      by_cases hl : qN r = r.length
      · simp [hl]
      · have h1 : ¬ ((qN r : Int) = -1) := by omega
        simp [hl, h1]
/-- The literal that a text behind its first mark begins with, and how many bytes it has. -/
def litT (zs : List Int) : Option (RToken × Nat) := if qN zs = zs.length then none else if litV (zs.take (qN zs)) = true then some (⟨5, 0, 0, zs.take (qN zs)⟩, qN zs + 2) else none


set_option maxRecDepth 8000 in
set_option maxHeartbeats 4000000 in
theorem literalT (b o l c : Nat) (zs : List Int) (w : World) (hz0 : zs.length = l) (hby : Byt zs) (hcs : ∀ i, i < l → w.cell? ⟨b, o + i, none⟩ = some (.int .u8 (zs.getD i 0))) (hl : l ≤ 100000) (hlc : l ≤ c) :
    Calls Tryd.prog 24 #[.slice (some ⟨b, o, none⟩) l c] w fun e u => w.grownBy u none ∧ ((litT zs = none ∧ e = .returned (.tuple #[.agg #[.int .i64 0, .int .i64 0, .int .i64 0, .slice none 0 0], .int .i64 0])) ∨ ∃ x q v, litT zs = some (x, q) ∧ e = .returned (.tuple #[v, .int .i64 q]) ∧ TokR u w.heap.size v x) := by
  have g0 := World.grownBy_alloc w (.cells #[.int .i64 0, .int .i64 0, .int .i64 0, .slice none 0 0] 33) none
  have b0 := heap_alloc_new w (.cells #[.int .i64 0, .int .i64 0, .int .i64 0, .slice none 0 0] 33)
  have HG : Hid (w.grownBy (w.alloc (.cells #[.int .i64 0, .int .i64 0, .int .i64 0, .slice none 0 0] 33)) none ∧ (w.alloc (.cells #[.int .i64 0, .int .i64 0, .int .i64 0, .slice none 0 0] 33)).heap[w.heap.size]? = some (Obj.cells #[.int .i64 0, .int .i64 0, .int .i64 0, .slice none 0 0] 33 (0, 0))) := ⟨g0, b0⟩
  have HH : Hid (zs.length = l ∧ Byt zs ∧ ∀ u, w.grownBy u none → ∀ i, i < l → u.cell? ⟨b, o + i, none⟩ = some (.int .u8 (zs.getD i 0))) := ⟨hz0, hby, fun u hu i hi => hu.cell (hcs i hi) (by simp)⟩
  have HS : Hid (w.heap.size ≤ w.heap.size) := Nat.le_refl _
  have C0 : Hid _ := Tryd.bytes_IndexByte ⟨b, o, none⟩ l c zs 34 (w.alloc (.cells #[.int .i64 0, .int .i64 0, .int .i64 0, .slice none 0 0] 33)) hz0 (fun i hi => by rw [Go.WideShapes.add_plain]; exact g0.cell (hcs i hi) (by simp))
  have hix : Lib.indexByte (Lib.bytesOf zs) (34 : Int).toNat.toUInt8 = if qN zs = zs.length then -1 else (qN zs : Int) := index34 zs hby
  rw [hix] at C0
  clear g0 b0 hz0 hby hcs hix
  go_enter Tryd.func24, Tryd.ntmps24
  go_wp2_with fail
  refine Calls.mono C0.out ?_
  rintro e u ⟨rfl, rfl⟩
  clear C0
  generalize w.alloc (.cells #[.int .i64 0, .int .i64 0, .int .i64 0, .slice none 0 0] 33) = w1 at *
  by_cases hq : qN zs = zs.length
  · have HP : Hid (litT zs = none) := by show _ = _; unfold litT; rw [if_pos hq]
    rw [if_pos hq]
    clear hq
    obtain ⟨⟨y0, y1, y2, y3⟩, hfz⟩ := blkToken HG.out.2
    have fz0 := hfz 0
    have fz1 := hfz 1
    have fz2 := hfz 2
    have fz3 := hfz 3
    obtain ⟨mf, kf⟩ := fillToken (.int .i64 0) (.int .i64 0) (.int .i64 0) (.slice none 0 0) HG.out.2
    have FQ : Hid _ := And.intro mf (And.intro (grown_into HG.out.1 kf HS.out) kf)
    clear mf kf hfz
    go_wp2_with fail
    (try simp only [Exit.inBlock, Exit.then])
    refine bodyPost_ret (results_cellU (P := Tryd.prog) Tryd.results24 _ _ _ _ _ _ _ rfl FQ.out.1 Tryd.underlying33 rfl (by kernel_rfl)) rfl ?_
    exact ⟨FQ.out.2.1, .inl ⟨HP.out, rfl⟩⟩
  rw [if_neg hq]
  have hqle := qN_le zs
  have hql : qN zs < l := by have := HH.out.1; omega
  obtain ⟨q, hqq⟩ : ∃ q, qN zs = q := ⟨_, rfl⟩
  have HL : Hid (litT zs = if litV (zs.take q) = true then some (⟨5, 0, 0, zs.take q⟩, q + 2) else none) := by show _ = _; unfold litT; rw [if_neg hq, hqq]
  rw [hqq] at hql ⊢
  clear hq hqle hqq
  have hlen : (zs.take q).length = q := by rw [List.length_take, HH.out.1]; omega
  have HR : Hid (RdB w1 (some ⟨b, o, none⟩) q (zs.take q)) := ⟨⟨hlen, .inr ⟨b, o, rfl, fun i hi => by
    rw [List.getD_eq_getElem?_getD, List.getElem?_take_of_lt hi, ← List.getD_eq_getElem?_getD]
    exact HH.out.2.2 _ HG.out.1 i (by omega)⟩⟩, fun z hz => HH.out.2.1 z (List.mem_of_mem_take hz), by omega⟩
  have C1 : Hid _ := isLiteralT (some ⟨b, o, none⟩) q c (zs.take q) w1 HR.out
  have hq0 : ¬ (q : Int) < 0 := by omega
  clear hlen
  go_wp2_with fail
  refine Calls.mono C1.out ?_
  rintro e u2 ⟨rfl, hg2⟩
  have HG2 : Hid (w.grownBy u2 none ∧ u2.heap[w.heap.size]? = some (Obj.cells #[.int .i64 0, .int .i64 0, .int .i64 0, .slice none 0 0] 33 (0, 0))) := ⟨grown_trans HG.out.1 hg2, (hg2.block _ (lt_of_block HG.out.2) (by simp)).trans HG.out.2⟩
  clear C1 hg2 HG
  rcases bool_ex (litV (zs.take q)) with h1 | h1
  rotate_left
  · have HP : Hid (litT zs = none) := by show _ = _; rw [HL.out, h1]; rfl
    rw [h1]
    clear h1
    obtain ⟨⟨y0, y1, y2, y3⟩, hfz⟩ := blkToken HG2.out.2
    have fz0 := hfz 0
    have fz1 := hfz 1
    have fz2 := hfz 2
    have fz3 := hfz 3
    obtain ⟨mf, kf⟩ := fillToken (.int .i64 0) (.int .i64 0) (.int .i64 0) (.slice none 0 0) HG2.out.2
    have FQ : Hid _ := And.intro mf (And.intro (grown_into HG2.out.1 kf HS.out) kf)
    clear mf kf hfz
    go_wp2_with fail
    (try simp only [Exit.inBlock, Exit.then])
    refine bodyPost_ret (results_cellU (P := Tryd.prog) Tryd.results24 _ _ _ _ _ _ _ rfl FQ.out.1 Tryd.underlying33 rfl (by kernel_rfl)) rfl ?_
    exact ⟨FQ.out.2.1, .inl ⟨HP.out, rfl⟩⟩
  have HP : Hid (litT zs = some (⟨5, 0, 0, zs.take q⟩, q + 2)) := by show _ = _; rw [HL.out, h1]; rfl
  have hlen : (zs.take q).length = q := HR.out.1.1
  have CF : Hid _ := freshBT b o q c (zs.take q) u2 hlen (fun i hi => by
    rw [List.getD_eq_getElem?_getD, List.getElem?_take_of_lt hi, ← List.getD_eq_getElem?_getD]
    exact HH.out.2.2 _ HG2.out.1 i (by omega)) (by omega)
  rw [h1]
  clear h1 hlen
  go_wp2_with fail
  refine Calls.mono CF.out ?_
  rintro e z ⟨af, cf, rfl, hgf, hof⟩
  have HZ : Hid ((w.grownBy z none ∧ z.heap[w.heap.size]? = some (Obj.cells #[.int .i64 0, .int .i64 0, .int .i64 0, .slice none 0 0] 33 (0, 0))) ∧ z.ownsRow w.heap.size 5 1 (.slice af q cf) q (vB (zs.take q))) := ⟨⟨grown_trans HG2.out.1 hgf, (hgf.block _ (lt_of_block HG2.out.2) (by simp)).trans HG2.out.2⟩, Go.Joins.ownsRow_le hof HG2.out.1.size⟩
  clear CF hgf hof HG2
  obtain ⟨⟨y0, y1, y2, y3⟩, hfz⟩ := blkToken HZ.out.1.2
  have fz0 := hfz 0
  have fz1 := hfz 1
  have fz2 := hfz 2
  have fz3 := hfz 3
  obtain ⟨mf, kf⟩ := fillToken (.int .i64 5) (.int .i64 0) (.int .i64 0) (.slice af q cf) HZ.out.1.2
  have FQ : Hid _ := And.intro mf (And.intro (grown_into HZ.out.1.1 kf HS.out) kf)
  clear mf kf hfz
  go_wp2_with fail
  (try simp only [Exit.inBlock, Exit.then])
  refine bodyPost_ret (results_cellU (P := Tryd.prog) Tryd.results24 _ _ _ _ _ _ _ rfl FQ.out.1 Tryd.underlying33 rfl (by kernel_rfl)) rfl ?_
  exact ⟨FQ.out.2.1, .inr ⟨_, _, _, HP.out, by go_num, af, q, cf, rfl, own_keptX HZ.out.2 FQ.out.2.2 HZ.out.1.2 (by decide), HR.out.2.1, by omega⟩⟩
end Go.Proofs.YtaecnhmegdeicaaDoor.By
