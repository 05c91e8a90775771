/-
  The document's put, by its contract. No statement is proved here.
-/
import Derived.Test.YtccnninmkfhejaaYCo
import Derived.Test.YtccnninmkfhejaaYPt
import Derived.Deep.CutBlock
import Derived.Laws.AppendOwnNone
namespace Go.Proofs.Ytccnninmkfhejaa.By
open Go.RowKit
set_option linter.unusedVariables false
set_option linter.unusedSimpArgs false

theorem results_none0 {P : Program} {fn : Func} (h : fn.results = #[]) (tmps : Array Value) (w : World) : (results fn tmps).run P w = .ok (.tuple #[]) w := by simp [results, h]
/-- What turns is a row that came after w. -/
theorem grown_row {w u z : World} {t : TypeId} {s n : Nat} {v : Value} {zs : List Value} (g : w.grownBy u none) (ho : u.ownsRow w.heap.size t s v n zs) (h : u.grownBy z v.ownBlock) : w.grownBy z none :=
  ⟨h.os.trans g.os, h.tape.trans g.tape, h.output.trans g.output, Nat.le_trans g.size h.size, fun i hi _ => (h.block i (Nat.lt_of_lt_of_le hi g.size) (fun e => by
    have := (World.ownsRow.lt ho i e.symm).1
    omega)).trans (g.block i hi (by simp))⟩

theorem fndK_le : ∀ (xs : List REntry) (A : Int), fndK xs A ≤ xs.length
  | [], _ => Nat.zero_le _
  | x :: r, A => by
    have := fndK_le r A
    simp only [fndK]; split <;> simp <;> omega

theorem cellsE {w : World} {g : Nat} {A C : Int} (h : w.heap[g]? = some (.cells #[.int .i64 A, .int .i64 C] 66 (0, 0))) : ∀ j v, ([.int .i64 A, .int .i64 C] : List Value)[j]? = some v → w.cell? ((⟨g, 0, none⟩ : Addr).add j) = some v := fun j v hj => by
  rw [Go.WideShapes.add_plain, Nat.zero_add, cell_of_row _ g j _ 66 (0, 0) h]
  match j, hj with
  | 0, hj => exact hj
  | 1, hj => exact hj
  | j + 2, hj => simp at hj
theorem oneE (A C : Int) : ∀ v ∈ ([.int .i64 A, .int .i64 C] : List Value), v.oneCell' = true := fun v hv => by
  simp only [List.mem_cons, List.not_mem_nil, or_false] at hv
  rcases hv with rfl | rfl <;> rfl

theorem lput_fin {w z : World} {B q : Nat} {x : RWorld} {d1 : Option Addr} {l1 k1 : Nat} {d2 : Option Addr} {l2 k2 : Nat} {d3 : Option Addr} {l3 k3 : Nat} {vs : List Value} {hi : Nat} {d' : Option Addr} {l' k' : Nat} {ys : List REntry} (M : Mine z B q x d1 l1 k1 d2 l2 k2 d3 l3 k3 vs hi) (G : w.grownBy z none) (ho : z.ownsRow w.heap.size 66 2 (.slice d' l' k') l' (vE ys)) (hB : B ≤ w.heap.size) (hq : B ≤ q) :
    (∃ d2' l2' k2', Mine (z.setCell ⟨q, 2, none⟩ (.slice d' l' k')) B q { x with store := ys } d1 l1 k1 d2' l2' k2' d3 l3 k3 vs hi) ∧ Below B w (z.setCell ⟨q, 2, none⟩ (.slice d' l' k')) ∧ (∀ (m : Nat) (cur : Array Value) (t : TypeId), t ≠ 66 → t ≠ 27 → w.heap[m]? = some (Obj.cells cur t (0, 0)) → (z.setCell ⟨q, 2, none⟩ (.slice d' l' k')).heap[m]? = some (Obj.cells cur t (0, 0))) := by
  obtain ⟨h0, h1, h2, h3, h4, h5⟩ := M
  refine ⟨⟨d', l', k', mine_set ⟨h0, h1, h3, h4, h5⟩ (Go.Joins.ownsRow_le ho hB)⟩, ((Below.refl B w).grown G hB (fun k e => by cases e)).setCell (p := ⟨q, 2, none⟩) hq _, fun m cur t ht1 ht2 hm => ?_⟩
  have hz := (G.block m (lt_of_block hm) (by simp)).trans hm
  have ne : m ≠ q := fun e => by subst e; rw [h0] at hz; cases hz; exact ht2 rfl
  exact ((grown_setCell z q 2 (.slice d' l' k')).block m (lt_of_block hz) (by simpa using ne)).trans hz

theorem row_eq {w : World} {B : Nat} {t : TypeId} {s n : Nat} {v : Value} {zs zs' : List Value} (h : w.ownsRow B t s v n zs) (e : zs = zs') : w.ownsRow B t s v n zs' := e ▸ h


set_option maxRecDepth 8000 in
set_option maxHeartbeats 8000000 in
theorem lputT (x : RWorld) (B q : Nat) (A C : Int) (d1 : Option Addr) (l1 k1 : Nat) (d2 : Option Addr) (l2 k2 : Nat) (d3 : Option Addr) (l3 k3 : Nat) (vs : List Value) (hi : Nat) (w : World) (h : Mine w B q x d1 l1 k1 d2 l2 k2 d3 l3 k3 vs hi) (hB : B ≤ w.heap.size) (hq : B ≤ q) (hl2 : l2 ≤ 1000) :
    Calls Try.prog 50 #[.pointer (some ⟨q, 0, none⟩), .int .i64 A, .int .i64 C] w fun e u => e = .returned (.tuple #[]) ∧ (∃ d2' l2' k2', Mine u B q { x with store := putV x.store A C } d1 l1 k1 d2' l2' k2' d3 l3 k3 vs hi) ∧ Below B w u ∧ (∀ (m : Nat) (cur : Array Value) (t : TypeId), t ≠ 66 → t ≠ 27 → w.heap[m]? = some (Obj.cells cur t (0, 0)) → u.heap[m]? = some (Obj.cells cur t (0, 0))) := by
  have hxl : x.store.length = l2 := by have := h.2.2.1.1; rw [vE_len] at this; omega
  have HM : Hid (Mine w B q x d1 l1 k1 d2 l2 k2 d3 l3 k3 vs hi ∧ B ≤ w.heap.size ∧ B ≤ q) := ⟨h, hB, hq⟩
  have HK : Hid (∀ k, k < l2 → ∃ g, d2 = some ⟨g, 0, none⟩ ∧ w.cell? ⟨g, k * 2, none⟩ = some (.int .i64 (keyAt x.store k))) := fun k hk => by
    rcases row_cell h.2.2.1 with h0 | ⟨g, e, -, -, hc⟩
    · omega
    · exact ⟨g, e, CLe.unhidz _ _ (hc _ _ (vE_at (by omega)).1)⟩
  obtain ⟨⟨y0, y1, y2, y3⟩, hfy⟩ := blkWorld h.1
  have fy2 := hfy 2
  clear h hB hq hfy y0 y1 y3
  go_enter Try.func50, Try.ntmps50
  go_upto_block 0 with fail
  go_cut [6] (fun s wx => s = .int .i64 (fndK x.store A) ∧ w = wx)
  case first =>
    go_wp2_with fail
    go_loop [6] (fun i => ∃ (k : Nat), k ≤ l2 ∧ i = .int .i64 k ∧ Hid (∀ i, i < k → keyAt x.store i < A)) (fun i => l2 - (intOf i).toNat)
    case atStart => exact ⟨0, Nat.zero_le _, rfl, fun i hi => by omega⟩
    case round =>
      obtain ⟨k, hk, rfl, HL⟩ := hrel
      by_cases hlt : k < l2
      · obtain ⟨g, rfl, hc⟩ := HK.out k hlt
        by_cases hA : keyAt x.store k < A
        · have HL2 : Hid (∀ i, i < k + 1 → keyAt x.store i < A) := fun i hi => by
            by_cases e : i = k
            · subst e; exact hA
            · exact HL.out i (by omega)
          go_wp2
          go_round
          case rel => exact ⟨k + 1, by omega, by go_num, HL2⟩
          case measure => simp [intOf]; omega
        · have HF : Hid (k = fndK x.store A) := fndK_eq (by omega) HL.out (fun _ => by omega)
          go_wp2
          go_meet
          case rel => exact ⟨by rw [← HF.out], rfl⟩
      · have HF : Hid (k = fndK x.store A) := fndK_eq (by omega) HL.out (fun _ => by omega)
        go_wp2
        go_meet
        case rel => exact ⟨by rw [← HF.out], rfl⟩
  case rest =>
  obtain ⟨rfl, rfl⟩ := hcut
  obtain ⟨k, hk⟩ : ∃ k, k = fndK x.store A := ⟨_, rfl⟩
  have hkl : k ≤ l2 := by have := fndK_le x.store A; omega
  have EV : Hid (putV x.store A C = putK x.store A C k (decide (k < l2 ∧ keyAt x.store k = A))) := by show _ = _; rw [putV, ← hk, fndB, ← hk, hxl]
  rw [← hk]
  clear hk
  go_upto_region 3 with fail
  go_cut [47] (fun s wx => s = .bool (decide (k < l2 ∧ keyAt x.store k = A)) ∧ w = wx)
  case first =>
    by_cases hlt : k < l2
    · obtain ⟨g, rfl, hc⟩ := HK.out k hlt
      by_cases hA : keyAt x.store k = A
      · have E : Hid (decide (k < l2 ∧ keyAt x.store k = A) = true) := (by simp [hlt, hA] : decide (k < l2 ∧ keyAt x.store k = A) = true)
        go_wp2
        go_meet
        case rel => exact ⟨by rw [E.out], rfl⟩
      · have E : Hid (decide (k < l2 ∧ keyAt x.store k = A) = false) := (by simp [hA] : decide (k < l2 ∧ keyAt x.store k = A) = false)
        go_wp2
        go_meet
        case rel => exact ⟨by rw [E.out]; simp [hA], rfl⟩
    · have E : Hid (decide (k < l2 ∧ keyAt x.store k = A) = false) := (by simp [hlt] : decide (k < l2 ∧ keyAt x.store k = A) = false)
      go_wp2
      go_meet
      case rel => exact ⟨by rw [E.out], rfl⟩
  case rest =>
  obtain ⟨rfl, rfl⟩ := hcut
  by_cases hb : k < l2 ∧ keyAt x.store k = A
  · have E : decide (k < l2 ∧ keyAt x.store k = A) = true := by simp [hb]
    rw [E] at EV ⊢
    clear E
    obtain ⟨hlt, hA⟩ := hb
    obtain ⟨g, rfl, hbg, ⟨cur, hcur⟩, hc⟩ : ∃ g, d2 = some ⟨g, 0, none⟩ ∧ B ≤ g ∧ (∃ cur, w.heap[g]? = some (.cells cur 66 (0, 0))) ∧ ∀ j v, (vE x.store)[j]? = some v → (hideZ w B).cell? ⟨g, j, none⟩ = some v := by
      rcases row_cell HM.out.1.2.2.1 with h0 | h0
      · omega
      · exact h0
    have hv : w.cell? ⟨g, k * 2 + 1, none⟩ = some (.int .i64 (valAt x.store k)) := CLe.unhidz _ _ (hc _ _ (vE_at (by omega)).2)
    have hfv := frozen_of_row w g (k * 2 + 1) _ _ hcur
    have st := HM.out.1.2.2.1.stored (k * 2 + 1) (.int .i64 C)
    rw [vE_set x.store k A C (by omega) hA] at st
    have mr := mine_rows HM.out.1 st.2 (fun g' e => by cases e; exact ⟨cur, hcur⟩)
    have M2 : Mine (w.setCell ⟨g, k * 2 + 1, none⟩ (.int .i64 C)) B q { x with store := x.store.take k ++ ⟨A, C⟩ :: x.store.drop (k + 1) } d1 l1 k1 (some ⟨g, 0, none⟩) l2 k2 d3 l3 k3 vs hi := ⟨mr.1, mr.2.1, st.1, mr.2.2⟩
    have EV2 : Hid (putV x.store A C = x.store.take k ++ ⟨A, C⟩ :: x.store.drop (k + 1)) := EV.out
    have FQ : Hid (_ ∧ _ ∧ (∀ (m : Nat) (cur : Array Value) (t : TypeId), t ≠ 66 → t ≠ 27 → w.heap[m]? = some (Obj.cells cur t (0, 0)) → (w.setCell ⟨g, k * 2 + 1, none⟩ (.int .i64 C)).heap[m]? = some (Obj.cells cur t (0, 0)))) := ⟨M2, (Below.refl B w).setCell (p := ⟨g, k * 2 + 1, none⟩) hbg (.int .i64 C), fun m cur' t ht1 ht2 hm => (st.2.block m (lt_of_block hm) (fun e => by
      have e' := Option.some.inj e
      rw [e', hcur] at hm
      cases hm
      exact ht1 rfl)).trans hm⟩
    clear st mr M2 hcur hc EV
    go_wp2
    refine bodyPost_ret (results_none0 (P := Try.prog) Try.results50 _ _) rfl ?_
    rw [EV2.out]
    exact ⟨rfl, ⟨_, _, _, FQ.out.1⟩, FQ.out.2⟩
  have E : decide (k < l2 ∧ keyAt x.store k = A) = false := by simp [hb]
  rw [E] at EV ⊢
  clear E hb
  by_cases h20 : l2 < 20
  rotate_left
  · have EV2 : Hid (putV x.store A C = x.store) := by show _ = _; rw [EV.out]; simp [putK, hxl, h20]
    clear EV
    go_wp2
    refine bodyPost_ret (results_none0 (P := Try.prog) Try.results50 _ _) rfl ?_
    rw [EV2.out]
    exact ⟨rfl, ⟨_, _, _, HM.out.1⟩, Below.refl _ _, fun m cur t _ _ hm => hm⟩
  have EV2 : Hid (putV x.store A C = x.store.take k ++ ⟨A, C⟩ :: x.store.drop k) := by show _ = _; rw [EV.out]; simp [putK, hxl, h20]
  clear EV
  obtain ⟨i0, hi0, hz0, hz1, hz2⟩ := info_parts infoYe
  have hqw := lt_of_block HM.out.1.1
  rcases HM.out.1.2.2.1.2 with ⟨e, h0⟩ | ⟨g, cap, cur, e, hbg, hg, hnc, hcm, hsz, ht⟩
  · cases e
    obtain rfl : k = 0 := by omega
    have hse : x.store = [] := List.eq_nil_of_length_eq_zero hxl
    have ga := World.grownBy_alloc w (.cells #[.int .i64 A, .int .i64 C] 66) none
    have ba := heap_alloc_new w (.cells #[.int .i64 A, .int .i64 C] 66)
    have HC : Hid _ := cellsE ba
    have hBB := ga.size
    have G1 : Hid (w.grownBy (w.alloc (.cells #[.int .i64 A, .int .i64 C] 66)) none) := ga
    clear ga ba
    go_upto_region 8 with (at_builtin; go_must (refine wpList_append_own_none rfl (.tmp 62) (.tmp 68) 24 rfl w.heap.size 66 i0 2 Try.underlying24 hi0 (.slice none 0 0) 0 [] rfl (World.ownsRow_nil _ _ _ _) rfl ?_))
    go_wp2_with (at_builtin; go_must (refine wpList_append_own _ rfl (.tmp 70) (.tmp 74) 24 rfl w.heap.size 66 i0 _ 2 16 Try.underlying24 hi0 hz0 hz1 hz2 rfl (by decide) (.slice none 0 0) 0 [] rfl (World.ownsRow_nil _ _ _ _) ⟨w.heap.size, 0, none⟩ 1 1 [.int .i64 A, .int .i64 C] rfl rfl HC.out (oneE A C) (by unfold maxLen; omega) (by omega) hBB ?_))
    intro vv w2 ho2 hg2 _
    obtain ⟨da, ka, rfl⟩ := row_slice ho2
    have G2 := grown_trans G1.out hg2
    have M2 := HM.out.1.none G2
    have y2' := G2.cell y2 (by simp)
    have fy2' := (blkWorld M2.1).2 2
    have OW : Hid _ := ho2
    have L2 : Hid _ := And.intro M2 G2
    clear M2 G2 ho2 hg2 y2 fy2 HC G1 hBB
    go_wp2_with (at_builtin; go_must (refine wpList_append_own_none rfl (.tmp 77) (.tmp 83) 24 rfl w.heap.size 66 i0 2 Try.underlying24 hi0 (.slice da (0 + 1) ka) _ _ rfl OW.out rfl ?_))
    refine bodyPost_end (results_none0 (P := Try.prog) Try.results50 _ _) rfl ?_
    rw [EV2.out]
    exact ⟨rfl, lput_fin L2.out.1 L2.out.2 (by rw [hse]; exact OW.out) HM.out.2.1 HM.out.2.2⟩
  · cases e
    have hcell : ∀ j v, (vE x.store)[j]? = some v → w.cell? ⟨g, j, none⟩ = some v := fun j v hj => by
      rw [cell_of_row _ g _ cur 66 (0, 0) hg]
      have hjl : j < l2 * 2 := by have := (List.getElem?_eq_some_iff.1 hj).1; rw [vE_len] at this; omega
      have h1 : (cur.toList.take (l2 * 2))[j]? = cur.toList[j]? := by rw [List.getElem?_take]; simp; omega
      rw [ht, hj] at h1
      rw [← Array.getElem?_toList, ← h1]
    have HT : Hid (∀ j v, ((vE x.store).take (k * 2))[j]? = some v → w.cell? ((⟨g, 0, none⟩ : Addr).add j) = some v) := fun j v hj => by
      rw [Go.WideShapes.add_plain, Nat.zero_add]
      rw [List.getElem?_take] at hj
      split at hj
      · exact hcell j v hj
      · cases hj
    have HD : Hid (∀ j v, ((vE x.store).drop (k * 2))[j]? = some v → w.cell? ⟨g, k * 2 + j, none⟩ = some v) := fun j v hj => by
      rw [List.getElem?_drop] at hj
      exact hcell _ v hj
    have hkc : k ≤ k2 := by omega
    have htl : ((vE x.store).take (k * 2)).length = k * 2 := by rw [List.length_take, vE_len]; omega
    have hdl : ((vE x.store).drop (k * 2)).length = (l2 - k) * 2 := by rw [List.length_drop, vE_len]; omega
    have o1 : ∀ v ∈ (vE x.store).take (k * 2), v.oneCell' = true := fun v hv => vE_one _ v (List.mem_of_mem_take hv)
    have o2 : ∀ v ∈ (vE x.store).drop (k * 2), v.oneCell' = true := fun v hv => vE_one _ v (List.mem_of_mem_drop hv)
    have HO : Hid ((∀ v ∈ (vE x.store).take (k * 2), v.oneCell' = true) ∧ (∀ v ∈ (vE x.store).drop (k * 2), v.oneCell' = true)) := ⟨o1, o2⟩
    have hlk : l2 ≤ k2 := hnc
    clear hcell hg hnc hsz ht o1 o2
    go_wp2_with (at_builtin; go_must (refine wpList_append_own _ rfl (.tmp 62) (.tmp 68) 24 rfl w.heap.size 66 i0 _ 2 16 Try.underlying24 hi0 hz0 hz1 hz2 rfl (by decide) (.slice none 0 0) 0 [] rfl (World.ownsRow_nil _ _ _ _) ⟨g, 0, none⟩ k k2 ((vE x.store).take (k * 2)) rfl htl HT.out HO.out.1 (by unfold maxLen; omega) (by omega) (Nat.le_refl _) ?_))
    intro vv w1 ho1 hg1 _
    (try simp only [Nat.zero_add, List.nil_append] at ho1)
    obtain ⟨da, ka, rfl⟩ := row_slice ho1
    have ga := World.grownBy_alloc w1 (.cells #[.int .i64 A, .int .i64 C] 66) none
    have ba := heap_alloc_new w1 (.cells #[.int .i64 A, .int .i64 C] 66)
    have HC : Hid _ := cellsE ba
    have O1 : Hid _ := ho1.kept ga (Classical.em _)
    have G1 : Hid _ := grown_trans (show w.grownBy w1 none from hg1) ga
    have hBB := G1.out.size
    clear ga ba ho1 hg1 HT htl
    go_wp2_with (at_builtin; go_must (refine wpList_append_own _ rfl (.tmp 70) (.tmp 74) 24 rfl w.heap.size 66 i0 _ 2 16 Try.underlying24 hi0 hz0 hz1 hz2 rfl (by decide) (.slice da k ka) k ((vE x.store).take (k * 2)) rfl O1.out ⟨w1.heap.size, 0, none⟩ 1 1 [.int .i64 A, .int .i64 C] rfl rfl HC.out (oneE A C) (by unfold maxLen; omega) (by omega) hBB ?_))
    intro vv w2 ho2 hg2 _
    obtain ⟨db, kb, rfl⟩ := row_slice ho2
    have G2 := grown_row G1.out O1.out hg2
    have M2 := HM.out.1.none G2
    have y2' := G2.cell y2 (by simp)
    have fy2' := (blkWorld M2.1).2 2
    have OW : Hid _ := ho2
    have L2 : Hid _ := And.intro M2 G2
    have HD2 : Hid (∀ j v, ((vE x.store).drop (k * 2))[j]? = some v → w2.cell? ((⟨g, k * 2, none⟩ : Addr).add j) = some v) := fun j v hj => by
      rw [Go.WideShapes.add_plain]
      exact G2.cell (HD.out j v hj) (by simp)
    have hBB2 := G2.size
    clear M2 G2 ho2 hg2 y2 fy2 HC G1 hBB O1 HD
    by_cases hkk : k2 = k
    · have hl2k : l2 = k := by omega
      subst hkk
      subst hl2k
      go_wp2_with (at_builtin; go_must (refine wpList_append_own _ rfl (.tmp 77) (.tmp 83) 24 rfl w.heap.size 66 i0 _ 2 16 Try.underlying24 hi0 hz0 hz1 hz2 rfl (by decide) (.slice db (l2 + 1) kb) (l2 + 1) _ rfl OW.out ⟨g, 0, none⟩ 0 0 [] rfl rfl (fun j v hj => by simp at hj) (fun v hv => by simp at hv) (by unfold maxLen; omega) (by omega) hBB2 ?_))
      intro vv w3 ho3 hg3 _
      obtain ⟨dc, kc, rfl⟩ := row_slice ho3
      have G3 := grown_row L2.out.2 OW.out hg3
      have M3 := HM.out.1.none G3
      obtain ⟨⟨z0, z1, z2, z3⟩, hfz⟩ := blkWorld M3.1
      have fz2 := hfz 2
      replace ho3 := row_eq ho3 (zs' := vE (x.store.take l2 ++ ⟨A, C⟩ :: x.store.drop l2)) (by rw [List.drop_eq_nil_of_le (by omega)]; simp [vE_app, vE, ← vE_take])
      have FQ : Hid _ := lput_fin M3 G3 ho3 HM.out.2.1 HM.out.2.2
      clear G3 M3 hfz ho3 hg3 y2' fy2' OW L2 HD2
      go_wp2
      refine bodyPost_end (results_none0 (P := Try.prog) Try.results50 _ _) rfl ?_
      rw [EV2.out]
      exact ⟨rfl, FQ.out⟩
    · go_wp2_with (at_builtin; go_must (refine wpList_append_own _ rfl (.tmp 77) (.tmp 83) 24 rfl w.heap.size 66 i0 _ 2 16 Try.underlying24 hi0 hz0 hz1 hz2 rfl (by decide) (.slice db (k + 1) kb) (k + 1) _ rfl OW.out ⟨g, k * 2, none⟩ (l2 - k) (k2 - k) ((vE x.store).drop (k * 2)) rfl hdl HD2.out HO.out.2 (by unfold maxLen; omega) (by omega) hBB2 ?_))
      intro vv w3 ho3 hg3 _
      obtain ⟨dc, kc, rfl⟩ := row_slice ho3
      have G3 := grown_row L2.out.2 OW.out hg3
      have M3 := HM.out.1.none G3
      obtain ⟨⟨z0, z1, z2, z3⟩, hfz⟩ := blkWorld M3.1
      have fz2 := hfz 2
      replace ho3 := row_eq ho3 (zs' := vE (x.store.take k ++ ⟨A, C⟩ :: x.store.drop k)) (by simp [vE_app, vE, ← vE_take, ← vE_drop])
      have FQ : Hid _ := lput_fin M3 G3 ho3 HM.out.2.1 HM.out.2.2
      clear G3 M3 hfz ho3 hg3 y2' fy2' OW L2 HD2
      go_wp2
      refine bodyPost_end (results_none0 (P := Try.prog) Try.results50 _ _) rfl ?_
      rw [EV2.out]
      exact ⟨rfl, FQ.out⟩
end Go.Proofs.Ytccnninmkfhejaa.By
