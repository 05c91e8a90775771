/-
  The form of a node: by its contract. No statement is proved here.
-/
import Derived.Test.YtjjaocoahepdaaaDoorNF0
import Derived.Deep.DeepCutAuto
import Derived.Laws.Rows
namespace Go.Proofs.YtjjaocoahepdaaaDoor.By
open Go.RowKit
set_option linter.unusedVariables false
set_option linter.unusedSimpArgs false

/-- The table stands. -/
def FormsIn (w : World) : Prop := ∃ t fr, w.heap[0]? = some (.cells formsA t fr)
theorem FormsIn.none {w u : World} (h : FormsIn w) (k : w.grownBy u Option.none) : FormsIn u := by
  obtain ⟨t, fr, h⟩ := h
  exact ⟨t, fr, (k.block _ (lt_of_block h) (by simp)).trans h⟩
theorem find_from (k n : Int) (j : Nat) (f : Frm) (h : formsL[j]? = some f) : (formsL.drop j).find? (hitF k n) = if hitF k n f then some f else (formsL.drop (j + 1)).find? (hitF k n) := by
  have hj : j < formsL.length := (List.getElem?_eq_some_iff.1 h).1
  have e : formsL[j] = f := (List.getElem?_eq_some_iff.1 h).2
  rw [List.drop_eq_getElem_cons hj, e, List.find?_cons]
  cases hitF k n f <;> rfl
def formR (k n : Int) : Frm := (formV k n).getD (⟨#[]⟩, 0, 0, ⟨#[]⟩)
def FoA (k n : Int) (e : Ending) : Prop := e = .returned (.tuple #[.agg #[.string (formR k n).1, .int .i64 (formR k n).2.1, .int .i64 (formR k n).2.2.1, .string (formR k n).2.2.2], .bool (formV k n).isSome])

theorem results_cell2F {P : Program} {fn : Func} {p u : Tmp} {ty : TypeId} (h : fn.results = #[.cell p ty, .tmp u]) (tmps : Array Value) (w : World) (g : Nat) (t : TypeId) (cs : Array Value) (fr : Nat × Nat) (d : TypeDesc)
    (hp : tmps.getD p undef = .pointer (some ⟨g, 0, none⟩)) (hg : w.heap[g]? = some (.cells cs t fr))
    (hu : P.underlying ty = some d) (hd : (match d with | .struct _ | .array _ _ => true | _ => false) = true) (hi : (P.info? ty).map (·.size) = some cs.size) :
    (results fn tmps).run P w = .ok (.tuple #[.agg cs, tmps.getD u undef]) w := by
  have hp' : tmps[p]?.getD undef = .pointer (some ⟨g, 0, none⟩) := by simpa using hp
  simp [results, h, hp', asAddr, run_loadVar_row w g t ty cs fr d hg hu hd hi]
theorem fillF {w : World} {p : Nat} {t : TypeId} {c0 c1 c2 c3 : Value} (v0 v1 v2 v3 : Value) (h : w.heap[p]? = some (.cells #[c0, c1, c2, c3] t (0, 0))) :
    ((((w.setCell ⟨p, 0, none⟩ v0).setCell ⟨p, 1, none⟩ v1).setCell ⟨p, 2, none⟩ v2).setCell ⟨p, 3, none⟩ v3).heap[p]? = some (.cells #[v0, v1, v2, v3] t (0, 0)) ∧ w.grownBy ((((w.setCell ⟨p, 0, none⟩ v0).setCell ⟨p, 1, none⟩ v1).setCell ⟨p, 2, none⟩ v2).setCell ⟨p, 3, none⟩ v3) (some p) :=
  ⟨heap_setCell_same _ p 3 _ t _ (heap_setCell_same _ p 2 _ t _ (heap_setCell_same _ p 1 _ t _ (heap_setCell_same w p 0 _ t _ h))), grown_trans (grown_trans (grown_trans (grown_setCell _ _ _ _) (grown_setCell _ _ _ _)) (grown_setCell _ _ _ _)) (grown_setCell _ _ _ _)⟩

set_option maxRecDepth 8000 in
set_option maxHeartbeats 4000000 in
theorem formOfT (k n : Int) (v2 v3 v4 v5 v6 : Value) (w : World) (hF : FormsIn w) :
    Calls Tryd.prog 28 #[.agg #[.int .i64 k, .int .i64 n, v2, v3, v4, v5, v6]] w fun e u => FoA k n e ∧ w.grownBy u none := by
  obtain ⟨b0, b1, bsz⟩ := alloc2_blocks w (.cells #[.int .i64 k, .int .i64 n, v2, v3, v4, v5, v6] 32) (.cells #[.string ⟨#[]⟩, .int .i64 0, .int .i64 0, .string ⟨#[]⟩] 61)
  have g0 := grown_alloc (grown_alloc (World.grownBy.refl w none) (.cells #[.int .i64 k, .int .i64 n, v2, v3, v4, v5, v6] 32)) (.cells #[.string ⟨#[]⟩, .int .i64 0, .int .i64 0, .string ⟨#[]⟩] 61)
  obtain ⟨t, fr, hf0⟩ := hF.none g0
  have L0 : Hid (w.grownBy _ none ∧ _ = some (Obj.cells #[.int .i64 k, .int .i64 n, v2, v3, v4, v5, v6] 32) ∧ _ = some (Obj.cells #[.string ⟨#[]⟩, .int .i64 0, .int .i64 0, .string ⟨#[]⟩] 61)) := ⟨g0, b0, b1⟩
  clear g0 b0 b1 hF
  go_enter Tryd.func28, Tryd.ntmps28
  go_wp2_with (refine wpList_load_row rfl 70 _ rfl 0 rfl t _ fr _ hf0 Tryd.underlying70 rfl (by rw [formsA_size]; kernel_rfl) ?_)
  clear hf0
  have P0 : Hid (w.heap.size ≤ w.heap.size ∧ w.heap.size + 1 = w.heap.size + 1) := ⟨Nat.le_refl _, rfl⟩
  generalize hp0 : w.heap.size = p0 at *
  generalize hp1 : p0 + 1 = p1 at *
  have PP : Hid (w.heap.size ≤ p1 ∧ p0 ≠ p1) := ⟨by omega, by omega⟩
  clear P0
  go_loopw [7] (fun i wr => ∃ j : Nat, j ≤ 31 ∧ i = .int .i64 j ∧ Hid (w.grownBy wr none ∧ wr.heap[p0]? = some (Obj.cells #[.int .i64 k, .int .i64 n, v2, v3, v4, v5, v6] 32) ∧ wr.heap[p1]? = some (Obj.cells #[.string ⟨#[]⟩, .int .i64 0, .int .i64 0, .string ⟨#[]⟩] 61) ∧ formV k n = (formsL.drop j).find? (hitF k n))) (fun i _ => 31 - (intOf i).toNat)
  case atStart => exact ⟨0, by omega, rfl, L0.out.1, L0.out.2.1, L0.out.2.2, rfl⟩
  case round =>
    clear L0
    obtain ⟨j, hj, rfl, HR⟩ := hrel
    by_cases hlt : j < 31
    · obtain ⟨f, hf⟩ : ∃ f, formsL[j]? = some f := ⟨formsL[j]'(by rw [formsL_len]; exact hlt), List.getElem?_eq_getElem _⟩
      have hix := idxF j f hf
      have hfind := find_from k n j f hf
      obtain ⟨wd, kk, nn, s⟩ := f
      simp only at hix
      have ga := World.grownBy_alloc wr (.cells #[.string wd, .int .i64 kk, .int .i64 nn, .string s] 61) none
      have ba := heap_alloc_new wr (.cells #[.string wd, .int .i64 kk, .int .i64 nn, .string s] 61)
      have L1 : Hid (w.grownBy (wr.alloc (.cells #[.string wd, .int .i64 kk, .int .i64 nn, .string s] 61)) none ∧ (wr.alloc (.cells #[.string wd, .int .i64 kk, .int .i64 nn, .string s] 61)).heap[p0]? = some (Obj.cells #[.int .i64 k, .int .i64 n, v2, v3, v4, v5, v6] 32) ∧ (wr.alloc (.cells #[.string wd, .int .i64 kk, .int .i64 nn, .string s] 61)).heap[p1]? = some (Obj.cells #[.string ⟨#[]⟩, .int .i64 0, .int .i64 0, .string ⟨#[]⟩] 61) ∧ w.heap.size ≤ p1) := ⟨grown_trans HR.out.1 ga, (ga.block _ (lt_of_block HR.out.2.1) (by simp)).trans HR.out.2.1, (ga.block _ (lt_of_block HR.out.2.2.1) (by simp)).trans HR.out.2.2.1, PP.out.1⟩
      have HV : Hid (formV k n = (formsL.drop j).find? (hitF k n)) := HR.out.2.2.2
      obtain ⟨⟨z0, z1, z2, z3, z4, z5, z6⟩, -⟩ := blkE L1.out.2.1
      obtain ⟨⟨y0, y1, y2, y3⟩, hfy⟩ := blkF ba
      have hqf := hfy 0
      have hqf1 := hfy 1
      have hqf2 := hfy 2
      have hqf3 := hfy 3
      clear HR hfy ga hf
      by_cases hk : kk = k
      · subst hk
        by_cases hn : nn = n
        · subst hn
          have HH : Hid (formV kk nn = some (wd, kk, nn, s)) := by show _ = _; rw [HV.out, hfind, if_pos (by simp [hitF])]
          clear HV hfind
          obtain ⟨⟨x0, x1, x2, x3⟩, hfx⟩ := blkF L1.out.2.2.1
          have f0 := hfx 0
          have f1 := hfx 1
          have f2 := hfx 2
          have f3 := hfx 3
          obtain ⟨m1, k1⟩ := fillF (.string wd) (.int .i64 kk) (.int .i64 nn) (.string s) L1.out.2.2.1
          have FQ : Hid _ := And.intro m1 (grown_into L1.out.1 k1 L1.out.2.2.2)
          clear m1 k1 hfx L1 ba
          go_wp2
          refine bodyPost_ret (results_cell2F (P := Tryd.prog) Tryd.results28 _ _ p1 _ _ _ _ rfl FQ.out.1 Tryd.underlying61 rfl (by kernel_rfl)) rfl ?_
          refine ⟨?_, FQ.out.2⟩
          unfold FoA formR
          rw [HH.out]
          rfl
        · have C1 : Hid _ := hasT wd kk nn s 105 (wr.alloc (.cells #[.string wd, .int .i64 kk, .int .i64 nn, .string s] 61))
          have BA : Hid _ := ba
          go_wp2_with fail
          refine Calls.mono C1.out ?_
          rintro e u ⟨rfl, hg⟩
          have L2 : Hid (w.grownBy u none ∧ u.heap[p0]? = some (Obj.cells #[.int .i64 kk, .int .i64 n, v2, v3, v4, v5, v6] 32) ∧ u.heap[p1]? = some (Obj.cells #[.string ⟨#[]⟩, .int .i64 0, .int .i64 0, .string ⟨#[]⟩] 61) ∧ w.heap.size ≤ p1) := ⟨grown_trans L1.out.1 hg, (hg.block _ (lt_of_block L1.out.2.1) (by simp)).trans L1.out.2.1, (hg.block _ (lt_of_block L1.out.2.2.1) (by simp)).trans L1.out.2.2.1, L1.out.2.2.2⟩
          have b2 := (hg.block _ (lt_of_block BA.out) (by simp)).trans BA.out
          clear C1 hg L1 BA ba y0 y1 y2 y3 z0 z1 z2 z3 z4 z5 z6 hqf hqf1 hqf2 hqf3
          obtain ⟨⟨y0, y1, y2, y3⟩, -⟩ := blkF b2
          have eL : (((105 : UInt8).toNat : Nat) : Int) = 105 := rfl
          clear b2
          simp only []
          cases hb : hasB s 105 with
          | true =>
            rw [eL, hb]
            have HH : Hid (formV kk n = some (wd, kk, nn, s)) := by show _ = _; rw [HV.out, hfind, if_pos (by simp [hitF, hb])]
            clear HV hfind
            obtain ⟨⟨x0, x1, x2, x3⟩, hfx⟩ := blkF L2.out.2.2.1
            have f0 := hfx 0
            have f1 := hfx 1
            have f2 := hfx 2
            have f3 := hfx 3
            obtain ⟨m1, k1⟩ := fillF (.string wd) (.int .i64 kk) (.int .i64 nn) (.string s) L2.out.2.2.1
            have FQ : Hid _ := And.intro m1 (grown_into L2.out.1 k1 L2.out.2.2.2)
            clear m1 k1 hfx L2
            go_wp2
            refine bodyPost_ret (results_cell2F (P := Tryd.prog) Tryd.results28 _ _ p1 _ _ _ _ rfl FQ.out.1 Tryd.underlying61 rfl (by kernel_rfl)) rfl ?_
            refine ⟨?_, FQ.out.2⟩
            unfold FoA formR
            rw [HH.out]
            rfl
          | false =>
            rw [eL, hb]
            have HH : Hid (formV kk n = (formsL.drop (j + 1)).find? (hitF kk n)) := by show _ = _; rw [HV.out, hfind, if_neg (by simp [hitF, hn, hb])]
            clear HV hfind
            have FZ : Hid (w.grownBy u none ∧ u.heap[p0]? = some (Obj.cells #[.int .i64 kk, .int .i64 n, v2, v3, v4, v5, v6] 32) ∧ u.heap[p1]? = some (Obj.cells #[.string ⟨#[]⟩, .int .i64 0, .int .i64 0, .string ⟨#[]⟩] 61) ∧ formV kk n = (formsL.drop (j + 1)).find? (hitF kk n)) := ⟨L2.out.1, L2.out.2.1, L2.out.2.2.1, HH.out⟩
            clear L2
            go_wp2
            go_roundw
            case rel => exact ⟨j + 1, by omega, by go_num, FZ⟩
            case measure => simp [intOf]; omega
      · have HH : Hid (formV k n = (formsL.drop (j + 1)).find? (hitF k n)) := by show _ = _; rw [HV.out, hfind, if_neg (by simp [hitF, hk])]
        clear HV hfind ba
        have FZ : Hid (w.grownBy (wr.alloc (.cells #[.string wd, .int .i64 kk, .int .i64 nn, .string s] 61)) none ∧ (wr.alloc (.cells #[.string wd, .int .i64 kk, .int .i64 nn, .string s] 61)).heap[p0]? = some (Obj.cells #[.int .i64 k, .int .i64 n, v2, v3, v4, v5, v6] 32) ∧ (wr.alloc (.cells #[.string wd, .int .i64 kk, .int .i64 nn, .string s] 61)).heap[p1]? = some (Obj.cells #[.string ⟨#[]⟩, .int .i64 0, .int .i64 0, .string ⟨#[]⟩] 61) ∧ formV k n = (formsL.drop (j + 1)).find? (hitF k n)) := ⟨L1.out.1, L1.out.2.1, L1.out.2.2.1, HH.out⟩
        clear L1
        go_wp2
        go_roundw
        case rel => exact ⟨j + 1, by omega, by go_num, FZ⟩
        case measure => simp [intOf]; omega
    · obtain rfl : j = 31 := by omega
      have HH : Hid (formV k n = none) := by show _ = _; rw [HR.out.2.2.2]; rfl
      obtain ⟨⟨x0, x1, x2, x3⟩, hfx⟩ := blkF HR.out.2.2.1
      have f0 := hfx 0
      have f1 := hfx 1
      have f2 := hfx 2
      have f3 := hfx 3
      obtain ⟨m1, k1⟩ := fillF (.string ⟨#[]⟩) (.int .i64 0) (.int .i64 0) (.string ⟨#[]⟩) HR.out.2.2.1
      have FQ : Hid _ := And.intro m1 (grown_into HR.out.1 k1 PP.out.1)
      clear m1 k1 hfx HR
      go_wp2
      refine bodyPost_ret (results_cell2F (P := Tryd.prog) Tryd.results28 _ _ p1 _ _ _ _ rfl FQ.out.1 Tryd.underlying61 rfl (by kernel_rfl)) rfl ?_
      refine ⟨?_, FQ.out.2⟩
      unfold FoA
      unfold formR
      rw [HH.out]
      rfl
end Go.Proofs.YtjjaocoahepdaaaDoor.By
