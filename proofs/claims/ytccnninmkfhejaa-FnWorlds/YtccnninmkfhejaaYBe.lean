/-
  The document's drawn world, bent, by its contract. No statement is proved here.
-/
import Derived.Test.YtccnninmkfhejaaYWo
namespace Go.Proofs.Ytccnninmkfhejaa.By
open Go.RowKit
set_option linter.unusedVariables false
set_option linter.unusedSimpArgs false

def Res (r : Nat) (u : World) : Prop := u.heap[r]? = some (Obj.cells #[.int .i64 0, .slice none 0 0, .slice none 0 0, .slice none 0 0] 27 (0, 0))
section
variable {w0 wb u z : World} {r q g : Nat} {a : Option Addr} {n cap : Nat}
theorem Res.none (h : Res r u) (hg : u.grownBy z Option.none) : Res r z := (hg.block r (lt_of_block h) (by simp)).trans h
theorem Res.drawn (h : Res r u) (k : Kept w0 u z g a n cap) (hr : g ≠ r) : Res r z := (k.2.block r (lt_of_block h) (by simp; omega)).trans h
theorem Res.row {t : TypeId} {row : Option Nat} (h : Res r u) (hg : u.grownBy z row) (hr : ∀ b, row = some b → ∃ cur, u.heap[b]? = some (Obj.cells cur t (0, 0))) (ht : t ≠ 27) : Res r z := (hg.block r (lt_of_block h) (fun e => by
  obtain ⟨cur, hc⟩ := hr r e.symm
  have h' : u.heap[r]? = _ := h
  rw [hc] at h'
  cases h'
  exact ht rfl)).trans h
theorem Res.set {i : Nat} {v : Value} (h : Res r u) (hq : q ≠ r) : Res r (u.setCell ⟨q, i, Option.none⟩ v) := ((grown_setCell u q i v).block r (lt_of_block h) (by simp; omega)).trans h
theorem DR.fill {B : Nat} {x : RWorld} {d1 : Option Addr} {l1 k1 : Nat} {d2 : Option Addr} {l2 k2 : Nat} {cs : Array Value} (h : DR w0 wb u B g a n cap x d1 l1 k1 d2 l2 k2) (kf : u.grownBy z (some r)) (Br : B ≤ r) (hr : u.heap[r]? = some (Obj.cells cs 27 (0, 0))) : DR w0 wb z B g a n cap x d1 l1 k1 d2 l2 k2 := by
  have hgB := h.gB
  have hlo := h.lo0
  exact ⟨h.cur.kept kf (by simp; omega) (fun k e => by have := Option.some.inj e; omega), h.gr.grown kf h.Bu (fun b e => .inr (by have := Option.some.inj e; omega)), h.gB, Nat.le_trans h.Bu kf.size, h.tr, row_keep h.dr kf (fun b e => by obtain rfl := Option.some.inj e; exact ⟨_, _, hr, by decide⟩), row_keep h.st kf (fun b e => by obtain rfl := Option.some.inj e; exact ⟨_, _, hr, by decide⟩)⟩
end

set_option maxRecDepth 8000 in
set_option maxHeartbeats 8000000 in
theorem lbentT (w0 wb w : World) (B g : Nat) (a : Option Addr) (n cap : Nat) (zs : List Int) (hr : Reads w0 a n zs) (hz : Byt zs) (hn : n ≤ 9223372036854775807) (x : RWorld) (d1 : Option Addr) (l1 k1 : Nat) (d2 : Option Addr) (l2 k2 : Nat) (h : DR w0 wb w B g a n cap x d1 l1 k1 d2 l2 k2) (hx : Wb 5 3 x) :
    Calls Try.prog 21 #[.pointer (some ⟨g, 0, none⟩), .agg #[.int .i64 x.ticks, .slice d1 l1 k1, .slice d2 l2 k2, .slice none 0 0]] w fun e u => DrawnW w0 wb B g a n cap 300 60 e u := by
  have hB := fun w hc m hm hm1 => belowT w0 w g a n cap zs hr hz hn hc m hm hm1
  have HB : Hid (∀ w, Cur w0 w g a n cap → ∀ m : Int, 0 < m → m ≤ 9223372036854775807 → Calls Try.prog 23 #[.pointer (some ⟨g, 0, none⟩), .int .i64 m] w fun e w' => ∃ x, e = .returned (.int .i64 x) ∧ 0 ≤ x ∧ x < m ∧ Kept w0 w w' g a n cap) := hB
  have hO := fun w hc m hm hm1 => onceT w0 w g a n cap zs hr hz hn hc m hm hm1
  have HO : Hid (∀ w, Cur w0 w g a n cap → ∀ m : Int, 0 < m → m ≤ 9223372036854775807 → Calls Try.prog 25 #[.pointer (some ⟨g, 0, none⟩), .int .i64 m] w fun e w' => ∃ x : Bool, e = .returned (.bool x) ∧ Kept w0 w w' g a n cap) := hO
  have HZ : Hid (Reads w0 a n zs ∧ Byt zs ∧ n ≤ 9223372036854775807) := ⟨hr, hz, hn⟩
  obtain ⟨b0, b1, bsz⟩ := alloc2_blocks w (.cells #[.int .i64 x.ticks, .slice d1 l1 k1, .slice d2 l2 k2, .slice none 0 0] 27) (.cells #[.int .i64 0, .slice none 0 0, .slice none 0 0, .slice none 0 0] 27)
  have g1 := World.grownBy_alloc w (.cells #[.int .i64 x.ticks, .slice d1 l1 k1, .slice d2 l2 k2, .slice none 0 0] 27) none
  have g2 := World.grownBy_alloc (w.alloc (.cells #[.int .i64 x.ticks, .slice d1 l1 k1, .slice d2 l2 k2, .slice none 0 0] 27)) (.cells #[.int .i64 0, .slice none 0 0, .slice none 0 0, .slice none 0 0] 27) none
  have D : Hid (DW w0 wb ((w.alloc (.cells #[.int .i64 x.ticks, .slice d1 l1 k1, .slice d2 l2 k2, .slice none 0 0] 27)).alloc (.cells #[.int .i64 0, .slice none 0 0, .slice none 0 0, .slice none 0 0] 27)) B g a n cap w.heap.size x d1 l1 k1 d2 l2 k2) := h.boxed.none g2
  have RS : Hid (Res (w.heap.size + 1) ((w.alloc (.cells #[.int .i64 x.ticks, .slice d1 l1 k1, .slice d2 l2 k2, .slice none 0 0] 27)).alloc (.cells #[.int .i64 0, .slice none 0 0, .slice none 0 0, .slice none 0 0] 27))) := b1
  have HX : Hid (Wb 5 3 x ∧ l1 ≤ 5 ∧ l2 ≤ 3) := ⟨hx, by have := h.len1; have := hx.1; omega, by have := h.len2; have := hx.2.1; omega⟩
  have hlt := h.gB
  have hBw := h.Bu
  clear hB hO hr hz hn b0 b1 bsz g1 g2 h hx
  go_enter Try.func21, Try.ntmps21
  go_wp2_with fail
  generalize ((w.alloc (.cells #[.int .i64 x.ticks, .slice d1 l1 k1, .slice d2 l2 k2, .slice none 0 0] 27)).alloc (.cells #[.int .i64 0, .slice none 0 0, .slice none 0 0, .slice none 0 0] 27)) = w1 at *
  obtain ⟨q, hq⟩ : ∃ q, w.heap.size = q := ⟨_, rfl⟩
  rw [hq] at D RS hBw ⊢
  clear hq
  obtain ⟨r, hr⟩ : ∃ r, q + 1 = r := ⟨_, rfl⟩
  have RG : Hid (g ≠ r) := by show _ ≠ _; omega
  have RQ : Hid (q ≠ r) := by show _ ≠ _; omega
  have BR : Hid (B ≤ r) := by show _ ≤ _; omega
  rw [hr] at RS ⊢
  clear hr hlt hBw
  refine Calls.mono (HO.out w1 D.out.cur 9 (by omega) (by omega)) ?_
  rintro e w2 ⟨bb, rfl, hk⟩
  have D2 : Hid (DW w0 wb w2 B g a n cap q x d1 l1 k1 d2 l2 k2) := D.out.drawn hk
  have RS2 : Hid (Res r w2) := RS.out.drawn hk RG.out
  clear hk D RS
  cases bb with
  | false =>
    have HQ : Hid (DW w0 wb w2 B g a n cap q x d1 l1 k1 d2 l2 k2 ∧ Res r w2 ∧ Wb 300 60 x) := ⟨D2.out, RS2.out, by have := HX.out; exact ⟨Nat.le_trans this.1.1 (by omega), Nat.le_trans this.1.2.1 (by omega), this.1.2.2⟩⟩
    clear D2 RS2
    obtain ⟨⟨y0, y1, y2, y3⟩, -⟩ := blkWorld HQ.out.1.box
    obtain ⟨⟨z0, z1, z2, z3⟩, hfz⟩ := blkWorld HQ.out.2.1
    have fz0 := hfz 0
    have fz1 := hfz 1
    have fz2 := hfz 2
    have fz3 := hfz 3
    obtain ⟨mf, kf⟩ := fillWorld (.int .i64 x.ticks) (.slice d1 l1 k1) (.slice d2 l2 k2) (.slice none 0 0) HQ.out.2.1
    have nqr := RQ.out
    have FQ : Hid _ := And.intro mf (And.intro (HQ.out.1.toDR.fill kf BR.out HQ.out.2.1) HQ.out.2.2)
    clear mf kf hfz HQ
    go_wp2
    (try simp only [Exit.inBlock, Exit.then])
    refine bodyPost_ret (results_cell_row (P := Try.prog) Try.results21 _ _ _ _ _ _ _ rfl FQ.out.1 Try.underlying27 rfl (by kernel_rfl)) rfl ?_
    exact ⟨x, d1, l1, k1, d2, l2, k2, rfl, FQ.out.2.1, FQ.out.2.2⟩
  | true =>
  go_wp2_with fail
  refine Calls.mono (HB.out w2 D2.out.cur 5 (by omega) (by omega)) ?_
  rintro e w3 ⟨sw, rfl, hs0, hs1, hk⟩
  have D : Hid (DW w0 wb w3 B g a n cap q x d1 l1 k1 d2 l2 k2) := D2.out.drawn hk
  have RS : Hid (Res r w3) := RS2.out.drawn hk RG.out
  clear hk D2 RS2
  go_upto_block 0 with fail
  go_cut [3] (fun s wx => s = .pointer (some ⟨q, 0, none⟩) ∧ ∃ (y : RWorld) (e1 : Option Addr) (m1 j1 : Nat) (e2 : Option Addr) (m2 j2 : Nat), Hid (DW w0 wb wx B g a n cap q y e1 m1 j1 e2 m2 j2 ∧ Res r wx ∧ Wb 300 60 y))
  case first =>
    have hx2 := HX.out.2
    rcases (by omega : sw = 0 ∨ sw = 1 ∨ sw = 2 ∨ sw = 3 ∨ sw = 4) with rfl | rfl | rfl | rfl | rfl
    · go_wp2_with fail
      refine Calls.mono (pickIn w0 w3 g a n cap zs HZ.out.1 HZ.out.2.1 HZ.out.2.2 D.out.cur [-1, 2147483647, 2147483648] (by decide) (by decide)) ?_
      rintro e w4 ⟨tk, rfl, hmem, hk⟩
      have D4 : Hid (DW w0 wb w4 B g a n cap q x d1 l1 k1 d2 l2 k2) := D.out.drawn hk
      have RS4 : Hid (Res r w4) := RS.out.drawn hk RG.out
      have hmb : -10 ≤ tk ∧ tk ≤ 4294967296 := by simp at hmem; omega
      obtain ⟨⟨y0, y1, y2, y3⟩, hfy⟩ := blkWorld D4.out.box
      have fy0 := hfy 0
      have FQ : Hid (DW w0 wb (w4.setCell ⟨q, 0, none⟩ (.int .i64 tk)) B g a n cap q { x with ticks := tk } d1 l1 k1 d2 l2 k2 ∧ Res r (w4.setCell ⟨q, 0, none⟩ (.int .i64 tk)) ∧ Wb 300 60 { x with ticks := tk }) := by
        have h9 := D4.out
        exact ⟨DW.setRow (x' := { x with ticks := tk }) ⟨h9.cur, h9.gr, h9.gB, h9.Bu, h9.tr, h9.dr, h9.st⟩ h9.Bq h9.box 0 _ rfl, RS4.out.set RQ.out, Nat.le_trans HX.out.1.1 (by omega), Nat.le_trans HX.out.1.2.1 (by omega), hmb⟩
      clear hk D RS D4 RS4 hmem hmb hfy
      simp only []
      go_wp2
      go_meet
      case rel => exact ⟨rfl, _, _, _, _, _, _, _, FQ⟩
    · have D9 : Hid (DW w0 wb w3.drew B g a n cap q x d1 l1 k1 d2 l2 k2) := D.out.none (grown_drew (World.grownBy.refl _ _))
      have RS9 : Hid (Res r w3.drew) := RS.out.none (grown_drew (World.grownBy.refl _ _))
      clear D RS
      have D := D9
      have RS := RS9
      clear D9 RS9
      go_wp2_with fail
      refine wp_region_held_drew (S := (fun _ => True)) (by kernel_rfl) trivial (fun hH => ?_)
      generalize w3.drew = u0 at *
      simp only [List.size_toArray, List.length_cons, List.length_nil, Nat.reduceAdd, Array.replicate, List.replicate]
      refine wpAnyH_take (i := 0) (v := ?_) rfl (by kernel_rfl) (by kernel_rfl) (by kernel_rfl) (fun _ _ _ h => h) (Or.inl ⟨by rfl, ?_⟩) hH ?_
      rotate_left
      · (intro v hS; go_simp; try with_reducible rfl)
      simp only [Act.put, List.setIfInBounds_toArray, List.set_cons_zero, List.set_cons_succ, List.getElem_toArray, List.getElem_cons_succ, List.getElem_cons_zero]
      refine wpAnyH_take (i := 2) (v := ?_) rfl (by kernel_rfl) (by kernel_rfl) (by kernel_rfl) (fun _ _ _ h => h) (Or.inl ⟨by rfl, ?_⟩) hH ?_
      rotate_left
      · (intro v hS; go_simp; try with_reducible rfl)
      simp only [Act.put, List.setIfInBounds_toArray, List.set_cons_zero, List.set_cons_succ, List.getElem_toArray, List.getElem_cons_succ, List.getElem_cons_zero]
      refine wpAnyH_ready (rs := [1, 3]) (by kernel_rfl) (by simp) ?_
      refine AllReadyH.cons rfl (fun K hK => ?_) ?_
      · skip
        have yy := (blkWorld D.out.box).1
        obtain ⟨y0, y1, y2, y3⟩ := yy
        go_simp
        refine hK.out _ _ trivial (fun hH2 => ?_)
        clear hK K hH
        have hH := hH2
        clear hH2
        simp only [Act.put, List.setIfInBounds_toArray, List.set_cons_zero, List.set_cons_succ, List.getElem_toArray, List.getElem_cons_succ, List.getElem_cons_zero]
        clear y0 y1 y2 y3
        refine wpAnyH_ready (rs := [3]) (by kernel_rfl) (by simp) ?_
        refine AllReadyH.cons rfl (fun K hK => ?_) AllReadyH.nil
        go_simp
        have D0 := D
        have ga := World.grownBy_alloc u0 (.cells #[.int .i64 (-1), .int .i64 2147483648] 3) none
        clear D
        have D : Hid (DW w0 wb (u0.alloc (.cells #[.int .i64 (-1), .int .i64 2147483648] 3)) B g a n cap q x d1 l1 k1 d2 l2 k2) := D0.out.none ga
        have RS0 := RS
        have RS2 : Hid (Res r (u0.alloc (.cells #[.int .i64 (-1), .int .i64 2147483648] 3))) := RS.out.none ga
        clear RS
        have RS := RS2
        clear RS2
        clear ga
        refine hK.out _ _ trivial (fun hH2 => ?_)
        clear hK K hH
        have hH := hH2
        clear hH2
        simp only [Act.put, List.setIfInBounds_toArray, List.set_cons_zero, List.set_cons_succ, List.getElem_toArray, List.getElem_cons_succ, List.getElem_cons_zero]
        refine wpAnyH_ready (rs := [4]) (by kernel_rfl) (by simp) ?_
        refine AllReadyH.cons rfl (fun K hK => ?_) AllReadyH.nil
        go_simp
        refine Calls.mono (pickIn w0 u0 g a n cap zs HZ.out.1 HZ.out.2.1 HZ.out.2.2 D0.out.cur [(-1), 2147483648] (by decide) (by decide)) ?_
        rintro e v1 ⟨c0, rfl, hmem, hk⟩
        clear D
        have D : Hid (DW w0 wb v1 B g a n cap q x d1 l1 k1 d2 l2 k2) := D0.out.drawn hk
        clear D0 hmem
        have RS2 : Hid (Res r v1) := RS0.out.drawn hk RG.out
        clear RS RS0
        have RS := RS2
        clear RS2
        clear hk
        refine hK.out _ _ trivial (fun hH2 => ?_)
        clear hK K hH
        have hH := hH2
        clear hH2
        simp only [Act.put, List.setIfInBounds_toArray, List.set_cons_zero, List.set_cons_succ, List.getElem_toArray, List.getElem_cons_succ, List.getElem_cons_zero]
        refine wpAnyH_ready (rs := [5]) (by kernel_rfl) (by simp) ?_
        refine AllReadyH.cons rfl (fun K hK => ?_) AllReadyH.nil
        go_simp
        have ga := World.grownBy_alloc v1 (.cells #[.int .i64 c0] 3) none
        have ba := heap_alloc_new v1 (.cells #[.int .i64 c0] 3)
        have D2 : Hid (DW w0 wb (v1.alloc (.cells #[.int .i64 c0] 3)) B g a n cap q x d1 l1 k1 d2 l2 k2) := D.out.none ga
        clear D
        have RS2 : Hid (Res r (v1.alloc (.cells #[.int .i64 c0] 3))) := RS.out.none ga
        clear RS
        have RS := RS2
        clear RS2
        have NB : Hid ((v1.alloc (.cells #[.int .i64 c0] 3)).heap[v1.heap.size]? = some (Obj.cells #[.int .i64 c0] 3 (0, 0))) := ba
        clear ga ba
        generalize (v1.alloc (.cells #[.int .i64 c0] 3)) = v2 at *
        generalize v1.heap.size = b3 at *
        have D := D2
        clear D2
        refine hK.out _ _ trivial (fun hH2 => ?_)
        clear hK K hH
        have hH := hH2
        clear hH2
        simp only [Act.put, List.setIfInBounds_toArray, List.set_cons_zero, List.set_cons_succ, List.getElem_toArray, List.getElem_cons_succ, List.getElem_cons_zero]
        refine wpAnyH_ready (rs := [6]) (by kernel_rfl) (by simp) ?_
        refine AllReadyH.cons rfl (fun K hK => ?_) AllReadyH.nil
        obtain ⟨i0, hi0, hz0, hz1, hz2⟩ := info_parts infoYi
        refine step_ofY rfl (wp_append_own _ (.tmp 26) (.tmp 30) 23 rfl B 3 i0 _ 1 8 Try.underlying23 hi0 hz0 hz1 hz2 rfl (by decide) (.slice d1 l1 k1) l1 (vI x.draws) rfl D.out.dr ⟨b3, 0, none⟩ 1 1 [.int .i64 c0] rfl rfl (cell_newI NB.out) (by simp [Value.oneCell']) (by unfold maxLen; omega) (by omega) D.out.Bu ?_)
        intro vv v4 ho hg _
        obtain ⟨d', k', rfl⟩ := row_slice ho
        rw [vI_app] at ho
        have AP : Hid _ := D.out.app1 hg ho
        have RS2 : Hid (Res r v4) := RS.out.row hg (fun b e => (row_blk D.out.dr b e).2) (by decide)
        clear RS
        have RS := RS2
        clear RS2
        clear hg ho D NB i0 hi0 hz0 hz1 hz2
        refine hK.out _ _ trivial (fun hH2 => ?_)
        clear hK K hH
        have hH := hH2
        clear hH2
        simp only [Act.put, List.setIfInBounds_toArray, List.set_cons_zero, List.set_cons_succ, List.getElem_toArray, List.getElem_cons_succ, List.getElem_cons_zero]
        refine wpAnyH_take (i := 7) (v := ?_) rfl (by kernel_rfl) (by kernel_rfl) (by kernel_rfl) (fun _ _ _ h => h) (Or.inl ⟨by rfl, ?_⟩) hH ?_
        rotate_left
        · (intro v hS; go_simp; try with_reducible rfl)
        simp only [Act.put, List.setIfInBounds_toArray, List.set_cons_zero, List.set_cons_succ, List.getElem_toArray, List.getElem_cons_succ, List.getElem_cons_zero]
        refine wpAnyH_ready (rs := [8]) (by kernel_rfl) (by simp) ?_
        refine AllReadyH.cons rfl (fun K hK => ?_) AllReadyH.nil
        have yy := (blkWorld AP.out.1).1
        obtain ⟨y0, y1, y2, y3⟩ := yy
        have ff := (blkWorld AP.out.1).2 1
        go_simp
        have D : Hid _ := AP.out.2
        have RS2 : Hid (Res r (v4.setCell ⟨q, 1, none⟩ (.slice d' (l1 + 1) k'))) := RS.out.set RQ.out
        clear RS
        have RS := RS2
        clear RS2
        clear y0 y1 y2 y3 ff AP
        generalize (v4.setCell ⟨q, 1, none⟩ (.slice d' (l1 + 1) k')) = v5 at *
        refine hK.out _ _ trivial (fun hH2 => ?_)
        clear hK K hH
        have hH := hH2
        clear hH2
        simp only [Act.put, List.setIfInBounds_toArray, List.set_cons_zero, List.set_cons_succ, List.getElem_toArray, List.getElem_cons_succ, List.getElem_cons_zero]
        refine wpAnyH_done (by kernel_rfl) ?_ _
        have FQ : Hid (DW w0 wb v5 B g a n cap q { x with draws := x.draws ++ [c0] } d' (l1 + 1) k' d2 l2 k2 ∧ Res r v5 ∧ Wb 300 60 { x with draws := x.draws ++ [c0] }) := ⟨D.out, RS.out, (by have := HX.out.1.1; simp; omega), (by have := HX.out.1.2.1; simp; omega), HX.out.1.2.2⟩
        clear D RS
        go_wp2
        go_meet
        case rel => exact ⟨rfl, _, _, _, _, _, _, _, FQ⟩
      refine AllReadyH.cons rfl (fun K hK => ?_) AllReadyH.nil
      · skip
        go_simp
        have D0 := D
        have ga := World.grownBy_alloc u0 (.cells #[.int .i64 (-1), .int .i64 2147483648] 3) none
        clear D
        have D : Hid (DW w0 wb (u0.alloc (.cells #[.int .i64 (-1), .int .i64 2147483648] 3)) B g a n cap q x d1 l1 k1 d2 l2 k2) := D0.out.none ga
        have RS0 := RS
        have RS2 : Hid (Res r (u0.alloc (.cells #[.int .i64 (-1), .int .i64 2147483648] 3))) := RS.out.none ga
        clear RS
        have RS := RS2
        clear RS2
        clear ga
        refine hK.out _ _ trivial (fun hH2 => ?_)
        clear hK K hH
        have hH := hH2
        clear hH2
        simp only [Act.put, List.setIfInBounds_toArray, List.set_cons_zero, List.set_cons_succ, List.getElem_toArray, List.getElem_cons_succ, List.getElem_cons_zero]
        refine wpAnyH_ready (rs := [1, 4]) (by kernel_rfl) (by simp) ?_
        refine AllReadyH.cons rfl (fun K hK => ?_) ?_
        · skip
          have yy := (blkWorld D.out.box).1
          obtain ⟨y0, y1, y2, y3⟩ := yy
          go_simp
          refine hK.out _ _ trivial (fun hH2 => ?_)
          clear hK K hH
          have hH := hH2
          clear hH2
          simp only [Act.put, List.setIfInBounds_toArray, List.set_cons_zero, List.set_cons_succ, List.getElem_toArray, List.getElem_cons_succ, List.getElem_cons_zero]
          clear y0 y1 y2 y3
          refine wpAnyH_ready (rs := [4]) (by kernel_rfl) (by simp) ?_
          refine AllReadyH.cons rfl (fun K hK => ?_) AllReadyH.nil
          go_simp
          refine Calls.mono (pickIn w0 u0 g a n cap zs HZ.out.1 HZ.out.2.1 HZ.out.2.2 D0.out.cur [(-1), 2147483648] (by decide) (by decide)) ?_
          rintro e v6 ⟨c0, rfl, hmem, hk⟩
          clear D
          have D : Hid (DW w0 wb v6 B g a n cap q x d1 l1 k1 d2 l2 k2) := D0.out.drawn hk
          clear D0 hmem
          have RS2 : Hid (Res r v6) := RS0.out.drawn hk RG.out
          clear RS RS0
          have RS := RS2
          clear RS2
          clear hk
          refine hK.out _ _ trivial (fun hH2 => ?_)
          clear hK K hH
          have hH := hH2
          clear hH2
          simp only [Act.put, List.setIfInBounds_toArray, List.set_cons_zero, List.set_cons_succ, List.getElem_toArray, List.getElem_cons_succ, List.getElem_cons_zero]
          refine wpAnyH_ready (rs := [5]) (by kernel_rfl) (by simp) ?_
          refine AllReadyH.cons rfl (fun K hK => ?_) AllReadyH.nil
          go_simp
          have ga := World.grownBy_alloc v6 (.cells #[.int .i64 c0] 3) none
          have ba := heap_alloc_new v6 (.cells #[.int .i64 c0] 3)
          have D2 : Hid (DW w0 wb (v6.alloc (.cells #[.int .i64 c0] 3)) B g a n cap q x d1 l1 k1 d2 l2 k2) := D.out.none ga
          clear D
          have RS2 : Hid (Res r (v6.alloc (.cells #[.int .i64 c0] 3))) := RS.out.none ga
          clear RS
          have RS := RS2
          clear RS2
          have NB : Hid ((v6.alloc (.cells #[.int .i64 c0] 3)).heap[v6.heap.size]? = some (Obj.cells #[.int .i64 c0] 3 (0, 0))) := ba
          clear ga ba
          generalize (v6.alloc (.cells #[.int .i64 c0] 3)) = v7 at *
          generalize v6.heap.size = b8 at *
          have D := D2
          clear D2
          refine hK.out _ _ trivial (fun hH2 => ?_)
          clear hK K hH
          have hH := hH2
          clear hH2
          simp only [Act.put, List.setIfInBounds_toArray, List.set_cons_zero, List.set_cons_succ, List.getElem_toArray, List.getElem_cons_succ, List.getElem_cons_zero]
          refine wpAnyH_ready (rs := [6]) (by kernel_rfl) (by simp) ?_
          refine AllReadyH.cons rfl (fun K hK => ?_) AllReadyH.nil
          obtain ⟨i0, hi0, hz0, hz1, hz2⟩ := info_parts infoYi
          refine step_ofY rfl (wp_append_own _ (.tmp 26) (.tmp 30) 23 rfl B 3 i0 _ 1 8 Try.underlying23 hi0 hz0 hz1 hz2 rfl (by decide) (.slice d1 l1 k1) l1 (vI x.draws) rfl D.out.dr ⟨b8, 0, none⟩ 1 1 [.int .i64 c0] rfl rfl (cell_newI NB.out) (by simp [Value.oneCell']) (by unfold maxLen; omega) (by omega) D.out.Bu ?_)
          intro vv v9 ho hg _
          obtain ⟨d', k', rfl⟩ := row_slice ho
          rw [vI_app] at ho
          have AP : Hid _ := D.out.app1 hg ho
          have RS2 : Hid (Res r v9) := RS.out.row hg (fun b e => (row_blk D.out.dr b e).2) (by decide)
          clear RS
          have RS := RS2
          clear RS2
          clear hg ho D NB i0 hi0 hz0 hz1 hz2
          refine hK.out _ _ trivial (fun hH2 => ?_)
          clear hK K hH
          have hH := hH2
          clear hH2
          simp only [Act.put, List.setIfInBounds_toArray, List.set_cons_zero, List.set_cons_succ, List.getElem_toArray, List.getElem_cons_succ, List.getElem_cons_zero]
          refine wpAnyH_take (i := 7) (v := ?_) rfl (by kernel_rfl) (by kernel_rfl) (by kernel_rfl) (fun _ _ _ h => h) (Or.inl ⟨by rfl, ?_⟩) hH ?_
          rotate_left
          · (intro v hS; go_simp; try with_reducible rfl)
          simp only [Act.put, List.setIfInBounds_toArray, List.set_cons_zero, List.set_cons_succ, List.getElem_toArray, List.getElem_cons_succ, List.getElem_cons_zero]
          refine wpAnyH_ready (rs := [8]) (by kernel_rfl) (by simp) ?_
          refine AllReadyH.cons rfl (fun K hK => ?_) AllReadyH.nil
          have yy := (blkWorld AP.out.1).1
          obtain ⟨y0, y1, y2, y3⟩ := yy
          have ff := (blkWorld AP.out.1).2 1
          go_simp
          have D : Hid _ := AP.out.2
          have RS2 : Hid (Res r (v9.setCell ⟨q, 1, none⟩ (.slice d' (l1 + 1) k'))) := RS.out.set RQ.out
          clear RS
          have RS := RS2
          clear RS2
          clear y0 y1 y2 y3 ff AP
          generalize (v9.setCell ⟨q, 1, none⟩ (.slice d' (l1 + 1) k')) = v10 at *
          refine hK.out _ _ trivial (fun hH2 => ?_)
          clear hK K hH
          have hH := hH2
          clear hH2
          simp only [Act.put, List.setIfInBounds_toArray, List.set_cons_zero, List.set_cons_succ, List.getElem_toArray, List.getElem_cons_succ, List.getElem_cons_zero]
          refine wpAnyH_done (by kernel_rfl) ?_ _
          have FQ : Hid (DW w0 wb v10 B g a n cap q { x with draws := x.draws ++ [c0] } d' (l1 + 1) k' d2 l2 k2 ∧ Res r v10 ∧ Wb 300 60 { x with draws := x.draws ++ [c0] }) := ⟨D.out, RS.out, (by have := HX.out.1.1; simp; omega), (by have := HX.out.1.2.1; simp; omega), HX.out.1.2.2⟩
          clear D RS
          go_wp2
          go_meet
          case rel => exact ⟨rfl, _, _, _, _, _, _, _, FQ⟩
        refine AllReadyH.cons rfl (fun K hK => ?_) AllReadyH.nil
        · skip
          go_simp
          refine Calls.mono (pickIn w0 u0 g a n cap zs HZ.out.1 HZ.out.2.1 HZ.out.2.2 D0.out.cur [(-1), 2147483648] (by decide) (by decide)) ?_
          rintro e v11 ⟨c0, rfl, hmem, hk⟩
          clear D
          have D : Hid (DW w0 wb v11 B g a n cap q x d1 l1 k1 d2 l2 k2) := D0.out.drawn hk
          clear D0 hmem
          have RS2 : Hid (Res r v11) := RS0.out.drawn hk RG.out
          clear RS RS0
          have RS := RS2
          clear RS2
          clear hk
          refine hK.out _ _ trivial (fun hH2 => ?_)
          clear hK K hH
          have hH := hH2
          clear hH2
          simp only [Act.put, List.setIfInBounds_toArray, List.set_cons_zero, List.set_cons_succ, List.getElem_toArray, List.getElem_cons_succ, List.getElem_cons_zero]
          refine wpAnyH_ready (rs := [1, 5]) (by kernel_rfl) (by simp) ?_
          refine AllReadyH.cons rfl (fun K hK => ?_) ?_
          · skip
            have yy := (blkWorld D.out.box).1
            obtain ⟨y0, y1, y2, y3⟩ := yy
            go_simp
            refine hK.out _ _ trivial (fun hH2 => ?_)
            clear hK K hH
            have hH := hH2
            clear hH2
            simp only [Act.put, List.setIfInBounds_toArray, List.set_cons_zero, List.set_cons_succ, List.getElem_toArray, List.getElem_cons_succ, List.getElem_cons_zero]
            clear y0 y1 y2 y3
            refine wpAnyH_ready (rs := [5]) (by kernel_rfl) (by simp) ?_
            refine AllReadyH.cons rfl (fun K hK => ?_) AllReadyH.nil
            go_simp
            have ga := World.grownBy_alloc v11 (.cells #[.int .i64 c0] 3) none
            have ba := heap_alloc_new v11 (.cells #[.int .i64 c0] 3)
            have D2 : Hid (DW w0 wb (v11.alloc (.cells #[.int .i64 c0] 3)) B g a n cap q x d1 l1 k1 d2 l2 k2) := D.out.none ga
            clear D
            have RS2 : Hid (Res r (v11.alloc (.cells #[.int .i64 c0] 3))) := RS.out.none ga
            clear RS
            have RS := RS2
            clear RS2
            have NB : Hid ((v11.alloc (.cells #[.int .i64 c0] 3)).heap[v11.heap.size]? = some (Obj.cells #[.int .i64 c0] 3 (0, 0))) := ba
            clear ga ba
            generalize (v11.alloc (.cells #[.int .i64 c0] 3)) = v12 at *
            generalize v11.heap.size = b13 at *
            have D := D2
            clear D2
            refine hK.out _ _ trivial (fun hH2 => ?_)
            clear hK K hH
            have hH := hH2
            clear hH2
            simp only [Act.put, List.setIfInBounds_toArray, List.set_cons_zero, List.set_cons_succ, List.getElem_toArray, List.getElem_cons_succ, List.getElem_cons_zero]
            refine wpAnyH_ready (rs := [6]) (by kernel_rfl) (by simp) ?_
            refine AllReadyH.cons rfl (fun K hK => ?_) AllReadyH.nil
            obtain ⟨i0, hi0, hz0, hz1, hz2⟩ := info_parts infoYi
            refine step_ofY rfl (wp_append_own _ (.tmp 26) (.tmp 30) 23 rfl B 3 i0 _ 1 8 Try.underlying23 hi0 hz0 hz1 hz2 rfl (by decide) (.slice d1 l1 k1) l1 (vI x.draws) rfl D.out.dr ⟨b13, 0, none⟩ 1 1 [.int .i64 c0] rfl rfl (cell_newI NB.out) (by simp [Value.oneCell']) (by unfold maxLen; omega) (by omega) D.out.Bu ?_)
            intro vv v14 ho hg _
            obtain ⟨d', k', rfl⟩ := row_slice ho
            rw [vI_app] at ho
            have AP : Hid _ := D.out.app1 hg ho
            have RS2 : Hid (Res r v14) := RS.out.row hg (fun b e => (row_blk D.out.dr b e).2) (by decide)
            clear RS
            have RS := RS2
            clear RS2
            clear hg ho D NB i0 hi0 hz0 hz1 hz2
            refine hK.out _ _ trivial (fun hH2 => ?_)
            clear hK K hH
            have hH := hH2
            clear hH2
            simp only [Act.put, List.setIfInBounds_toArray, List.set_cons_zero, List.set_cons_succ, List.getElem_toArray, List.getElem_cons_succ, List.getElem_cons_zero]
            refine wpAnyH_take (i := 7) (v := ?_) rfl (by kernel_rfl) (by kernel_rfl) (by kernel_rfl) (fun _ _ _ h => h) (Or.inl ⟨by rfl, ?_⟩) hH ?_
            rotate_left
            · (intro v hS; go_simp; try with_reducible rfl)
            simp only [Act.put, List.setIfInBounds_toArray, List.set_cons_zero, List.set_cons_succ, List.getElem_toArray, List.getElem_cons_succ, List.getElem_cons_zero]
            refine wpAnyH_ready (rs := [8]) (by kernel_rfl) (by simp) ?_
            refine AllReadyH.cons rfl (fun K hK => ?_) AllReadyH.nil
            have yy := (blkWorld AP.out.1).1
            obtain ⟨y0, y1, y2, y3⟩ := yy
            have ff := (blkWorld AP.out.1).2 1
            go_simp
            have D : Hid _ := AP.out.2
            have RS2 : Hid (Res r (v14.setCell ⟨q, 1, none⟩ (.slice d' (l1 + 1) k'))) := RS.out.set RQ.out
            clear RS
            have RS := RS2
            clear RS2
            clear y0 y1 y2 y3 ff AP
            generalize (v14.setCell ⟨q, 1, none⟩ (.slice d' (l1 + 1) k')) = v15 at *
            refine hK.out _ _ trivial (fun hH2 => ?_)
            clear hK K hH
            have hH := hH2
            clear hH2
            simp only [Act.put, List.setIfInBounds_toArray, List.set_cons_zero, List.set_cons_succ, List.getElem_toArray, List.getElem_cons_succ, List.getElem_cons_zero]
            refine wpAnyH_done (by kernel_rfl) ?_ _
            have FQ : Hid (DW w0 wb v15 B g a n cap q { x with draws := x.draws ++ [c0] } d' (l1 + 1) k' d2 l2 k2 ∧ Res r v15 ∧ Wb 300 60 { x with draws := x.draws ++ [c0] }) := ⟨D.out, RS.out, (by have := HX.out.1.1; simp; omega), (by have := HX.out.1.2.1; simp; omega), HX.out.1.2.2⟩
            clear D RS
            go_wp2
            go_meet
            case rel => exact ⟨rfl, _, _, _, _, _, _, _, FQ⟩
          refine AllReadyH.cons rfl (fun K hK => ?_) AllReadyH.nil
          · skip
            go_simp
            have ga := World.grownBy_alloc v11 (.cells #[.int .i64 c0] 3) none
            have ba := heap_alloc_new v11 (.cells #[.int .i64 c0] 3)
            have D2 : Hid (DW w0 wb (v11.alloc (.cells #[.int .i64 c0] 3)) B g a n cap q x d1 l1 k1 d2 l2 k2) := D.out.none ga
            clear D
            have RS2 : Hid (Res r (v11.alloc (.cells #[.int .i64 c0] 3))) := RS.out.none ga
            clear RS
            have RS := RS2
            clear RS2
            have NB : Hid ((v11.alloc (.cells #[.int .i64 c0] 3)).heap[v11.heap.size]? = some (Obj.cells #[.int .i64 c0] 3 (0, 0))) := ba
            clear ga ba
            generalize (v11.alloc (.cells #[.int .i64 c0] 3)) = v16 at *
            generalize v11.heap.size = b17 at *
            have D := D2
            clear D2
            refine hK.out _ _ trivial (fun hH2 => ?_)
            clear hK K hH
            have hH := hH2
            clear hH2
            simp only [Act.put, List.setIfInBounds_toArray, List.set_cons_zero, List.set_cons_succ, List.getElem_toArray, List.getElem_cons_succ, List.getElem_cons_zero]
            refine wpAnyH_ready (rs := [1]) (by kernel_rfl) (by simp) ?_
            refine AllReadyH.cons rfl (fun K hK => ?_) AllReadyH.nil
            have yy := (blkWorld D.out.box).1
            obtain ⟨y0, y1, y2, y3⟩ := yy
            go_simp
            refine hK.out _ _ trivial (fun hH2 => ?_)
            clear hK K hH
            have hH := hH2
            clear hH2
            simp only [Act.put, List.setIfInBounds_toArray, List.set_cons_zero, List.set_cons_succ, List.getElem_toArray, List.getElem_cons_succ, List.getElem_cons_zero]
            clear y0 y1 y2 y3
            refine wpAnyH_ready (rs := [6]) (by kernel_rfl) (by simp) ?_
            refine AllReadyH.cons rfl (fun K hK => ?_) AllReadyH.nil
            obtain ⟨i0, hi0, hz0, hz1, hz2⟩ := info_parts infoYi
            refine step_ofY rfl (wp_append_own _ (.tmp 26) (.tmp 30) 23 rfl B 3 i0 _ 1 8 Try.underlying23 hi0 hz0 hz1 hz2 rfl (by decide) (.slice d1 l1 k1) l1 (vI x.draws) rfl D.out.dr ⟨b17, 0, none⟩ 1 1 [.int .i64 c0] rfl rfl (cell_newI NB.out) (by simp [Value.oneCell']) (by unfold maxLen; omega) (by omega) D.out.Bu ?_)
            intro vv v18 ho hg _
            obtain ⟨d', k', rfl⟩ := row_slice ho
            rw [vI_app] at ho
            have AP : Hid _ := D.out.app1 hg ho
            have RS2 : Hid (Res r v18) := RS.out.row hg (fun b e => (row_blk D.out.dr b e).2) (by decide)
            clear RS
            have RS := RS2
            clear RS2
            clear hg ho D NB i0 hi0 hz0 hz1 hz2
            refine hK.out _ _ trivial (fun hH2 => ?_)
            clear hK K hH
            have hH := hH2
            clear hH2
            simp only [Act.put, List.setIfInBounds_toArray, List.set_cons_zero, List.set_cons_succ, List.getElem_toArray, List.getElem_cons_succ, List.getElem_cons_zero]
            refine wpAnyH_take (i := 7) (v := ?_) rfl (by kernel_rfl) (by kernel_rfl) (by kernel_rfl) (fun _ _ _ h => h) (Or.inl ⟨by rfl, ?_⟩) hH ?_
            rotate_left
            · (intro v hS; go_simp; try with_reducible rfl)
            simp only [Act.put, List.setIfInBounds_toArray, List.set_cons_zero, List.set_cons_succ, List.getElem_toArray, List.getElem_cons_succ, List.getElem_cons_zero]
            refine wpAnyH_ready (rs := [8]) (by kernel_rfl) (by simp) ?_
            refine AllReadyH.cons rfl (fun K hK => ?_) AllReadyH.nil
            have yy := (blkWorld AP.out.1).1
            obtain ⟨y0, y1, y2, y3⟩ := yy
            have ff := (blkWorld AP.out.1).2 1
            go_simp
            have D : Hid _ := AP.out.2
            have RS2 : Hid (Res r (v18.setCell ⟨q, 1, none⟩ (.slice d' (l1 + 1) k'))) := RS.out.set RQ.out
            clear RS
            have RS := RS2
            clear RS2
            clear y0 y1 y2 y3 ff AP
            generalize (v18.setCell ⟨q, 1, none⟩ (.slice d' (l1 + 1) k')) = v19 at *
            refine hK.out _ _ trivial (fun hH2 => ?_)
            clear hK K hH
            have hH := hH2
            clear hH2
            simp only [Act.put, List.setIfInBounds_toArray, List.set_cons_zero, List.set_cons_succ, List.getElem_toArray, List.getElem_cons_succ, List.getElem_cons_zero]
            refine wpAnyH_done (by kernel_rfl) ?_ _
            have FQ : Hid (DW w0 wb v19 B g a n cap q { x with draws := x.draws ++ [c0] } d' (l1 + 1) k' d2 l2 k2 ∧ Res r v19 ∧ Wb 300 60 { x with draws := x.draws ++ [c0] }) := ⟨D.out, RS.out, (by have := HX.out.1.1; simp; omega), (by have := HX.out.1.2.1; simp; omega), HX.out.1.2.2⟩
            clear D RS
            go_wp2
            go_meet
            case rel => exact ⟨rfl, _, _, _, _, _, _, _, FQ⟩
    · have D9 : Hid (DW w0 wb w3.drew B g a n cap q x d1 l1 k1 d2 l2 k2) := D.out.none (grown_drew (World.grownBy.refl _ _))
      have RS9 : Hid (Res r w3.drew) := RS.out.none (grown_drew (World.grownBy.refl _ _))
      clear D RS
      have D := D9
      have RS := RS9
      clear D9 RS9
      go_wp2_with fail
      refine wp_region_held_drew (S := (fun _ => True)) (by kernel_rfl) trivial (fun hH => ?_)
      generalize w3.drew = u0 at *
      simp only [List.size_toArray, List.length_cons, List.length_nil, Nat.reduceAdd, Array.replicate, List.replicate]
      refine wpAnyH_take (i := 0) (v := ?_) rfl (by kernel_rfl) (by kernel_rfl) (by kernel_rfl) (fun _ _ _ h => h) (Or.inl ⟨by rfl, ?_⟩) hH ?_
      rotate_left
      · (intro v hS; go_simp; try with_reducible rfl)
      simp only [Act.put, List.setIfInBounds_toArray, List.set_cons_zero, List.set_cons_succ, List.getElem_toArray, List.getElem_cons_succ, List.getElem_cons_zero]
      refine wpAnyH_take (i := 2) (v := ?_) rfl (by kernel_rfl) (by kernel_rfl) (by kernel_rfl) (fun _ _ _ h => h) (Or.inl ⟨by rfl, ?_⟩) hH ?_
      rotate_left
      · (intro v hS; go_simp; try with_reducible rfl)
      simp only [Act.put, List.setIfInBounds_toArray, List.set_cons_zero, List.set_cons_succ, List.getElem_toArray, List.getElem_cons_succ, List.getElem_cons_zero]
      refine wpAnyH_ready (rs := [1, 3]) (by kernel_rfl) (by simp) ?_
      refine AllReadyH.cons rfl (fun K hK => ?_) ?_
      · skip
        have yy := (blkWorld D.out.box).1
        obtain ⟨y0, y1, y2, y3⟩ := yy
        go_simp
        refine hK.out _ _ trivial (fun hH2 => ?_)
        clear hK K hH
        have hH := hH2
        clear hH2
        simp only [Act.put, List.setIfInBounds_toArray, List.set_cons_zero, List.set_cons_succ, List.getElem_toArray, List.getElem_cons_succ, List.getElem_cons_zero]
        clear y0 y1 y2 y3
        refine wpAnyH_ready (rs := [3]) (by kernel_rfl) (by simp) ?_
        refine AllReadyH.cons rfl (fun K hK => ?_) AllReadyH.nil
        go_simp
        have D0 := D
        have ga := World.grownBy_alloc u0 (.cells #[.int .i64 (-9), .int .i64 4611686018427387904, .int .i64 (-4611686018427387904), .int .i64 4611686018427387903] 3) none
        clear D
        have D : Hid (DW w0 wb (u0.alloc (.cells #[.int .i64 (-9), .int .i64 4611686018427387904, .int .i64 (-4611686018427387904), .int .i64 4611686018427387903] 3)) B g a n cap q x d1 l1 k1 d2 l2 k2) := D0.out.none ga
        have RS0 := RS
        have RS2 : Hid (Res r (u0.alloc (.cells #[.int .i64 (-9), .int .i64 4611686018427387904, .int .i64 (-4611686018427387904), .int .i64 4611686018427387903] 3))) := RS.out.none ga
        clear RS
        have RS := RS2
        clear RS2
        clear ga
        refine hK.out _ _ trivial (fun hH2 => ?_)
        clear hK K hH
        have hH := hH2
        clear hH2
        simp only [Act.put, List.setIfInBounds_toArray, List.set_cons_zero, List.set_cons_succ, List.getElem_toArray, List.getElem_cons_succ, List.getElem_cons_zero]
        refine wpAnyH_ready (rs := [4]) (by kernel_rfl) (by simp) ?_
        refine AllReadyH.cons rfl (fun K hK => ?_) AllReadyH.nil
        go_simp
        refine Calls.mono (pickIn w0 u0 g a n cap zs HZ.out.1 HZ.out.2.1 HZ.out.2.2 D0.out.cur [(-9), 4611686018427387904, (-4611686018427387904), 4611686018427387903] (by decide) (by decide)) ?_
        rintro e v1 ⟨c0, rfl, hmem, hk⟩
        clear D
        have D : Hid (DW w0 wb v1 B g a n cap q x d1 l1 k1 d2 l2 k2) := D0.out.drawn hk
        clear D0 hmem
        have RS2 : Hid (Res r v1) := RS0.out.drawn hk RG.out
        clear RS RS0
        have RS := RS2
        clear RS2
        clear hk
        refine hK.out _ _ trivial (fun hH2 => ?_)
        clear hK K hH
        have hH := hH2
        clear hH2
        simp only [Act.put, List.setIfInBounds_toArray, List.set_cons_zero, List.set_cons_succ, List.getElem_toArray, List.getElem_cons_succ, List.getElem_cons_zero]
        refine wpAnyH_take (i := 5) (v := ?_) rfl (by kernel_rfl) (by kernel_rfl) (by kernel_rfl) (fun _ _ _ h => h) (Or.inl ⟨by rfl, ?_⟩) hH ?_
        rotate_left
        · (intro v hS; go_simp; try with_reducible rfl)
        simp only [Act.put, List.setIfInBounds_toArray, List.set_cons_zero, List.set_cons_succ, List.getElem_toArray, List.getElem_cons_succ, List.getElem_cons_zero]
        refine wpAnyH_ready (rs := [6]) (by kernel_rfl) (by simp) ?_
        refine AllReadyH.cons rfl (fun K hK => ?_) AllReadyH.nil
        go_simp
        have ga := World.grownBy_alloc v1 (.cells #[.int .i64 c0, .int .i64 0] 66) none
        have ba := heap_alloc_new v1 (.cells #[.int .i64 c0, .int .i64 0] 66)
        have D2 : Hid (DW w0 wb (v1.alloc (.cells #[.int .i64 c0, .int .i64 0] 66)) B g a n cap q x d1 l1 k1 d2 l2 k2) := D.out.none ga
        clear D
        have RS2 : Hid (Res r (v1.alloc (.cells #[.int .i64 c0, .int .i64 0] 66))) := RS.out.none ga
        clear RS
        have RS := RS2
        clear RS2
        have NB : Hid ((v1.alloc (.cells #[.int .i64 c0, .int .i64 0] 66)).heap[v1.heap.size]? = some (Obj.cells #[.int .i64 c0, .int .i64 0] 66 (0, 0))) := ba
        clear ga ba
        generalize (v1.alloc (.cells #[.int .i64 c0, .int .i64 0] 66)) = v2 at *
        generalize v1.heap.size = b3 at *
        have D := D2
        clear D2
        refine hK.out _ _ trivial (fun hH2 => ?_)
        clear hK K hH
        have hH := hH2
        clear hH2
        simp only [Act.put, List.setIfInBounds_toArray, List.set_cons_zero, List.set_cons_succ, List.getElem_toArray, List.getElem_cons_succ, List.getElem_cons_zero]
        refine wpAnyH_ready (rs := [7]) (by kernel_rfl) (by simp) ?_
        refine AllReadyH.cons rfl (fun K hK => ?_) AllReadyH.nil
        obtain ⟨i0, hi0, hz0, hz1, hz2⟩ := info_parts infoYe
        refine step_ofY rfl (wp_append_own _ (.tmp 36) (.tmp 41) 24 rfl B 66 i0 _ 2 16 Try.underlying24 hi0 hz0 hz1 hz2 rfl (by decide) (.slice d2 l2 k2) l2 (vE x.store) rfl D.out.st ⟨b3, 0, none⟩ 1 1 [.int .i64 c0, .int .i64 0] rfl rfl (cellsE NB.out) (oneE _ _) (by unfold maxLen; omega) (by omega) D.out.Bu ?_)
        intro vv v4 ho hg _
        obtain ⟨d', k', rfl⟩ := row_slice ho
        rw [vE_snoc] at ho
        have AP : Hid _ := D.out.app2 hg ho
        have RS2 : Hid (Res r v4) := RS.out.row hg (fun b e => (row_blk D.out.st b e).2) (by decide)
        clear RS
        have RS := RS2
        clear RS2
        clear hg ho D NB i0 hi0 hz0 hz1 hz2
        refine hK.out _ _ trivial (fun hH2 => ?_)
        clear hK K hH
        have hH := hH2
        clear hH2
        simp only [Act.put, List.setIfInBounds_toArray, List.set_cons_zero, List.set_cons_succ, List.getElem_toArray, List.getElem_cons_succ, List.getElem_cons_zero]
        refine wpAnyH_take (i := 8) (v := ?_) rfl (by kernel_rfl) (by kernel_rfl) (by kernel_rfl) (fun _ _ _ h => h) (Or.inl ⟨by rfl, ?_⟩) hH ?_
        rotate_left
        · (intro v hS; go_simp; try with_reducible rfl)
        simp only [Act.put, List.setIfInBounds_toArray, List.set_cons_zero, List.set_cons_succ, List.getElem_toArray, List.getElem_cons_succ, List.getElem_cons_zero]
        refine wpAnyH_ready (rs := [9]) (by kernel_rfl) (by simp) ?_
        refine AllReadyH.cons rfl (fun K hK => ?_) AllReadyH.nil
        have yy := (blkWorld AP.out.1).1
        obtain ⟨y0, y1, y2, y3⟩ := yy
        have ff := (blkWorld AP.out.1).2 2
        go_simp
        have D : Hid _ := AP.out.2
        have RS2 : Hid (Res r (v4.setCell ⟨q, 2, none⟩ (.slice d' (l2 + 1) k'))) := RS.out.set RQ.out
        clear RS
        have RS := RS2
        clear RS2
        clear y0 y1 y2 y3 ff AP
        generalize (v4.setCell ⟨q, 2, none⟩ (.slice d' (l2 + 1) k')) = v5 at *
        refine hK.out _ _ trivial (fun hH2 => ?_)
        clear hK K hH
        have hH := hH2
        clear hH2
        simp only [Act.put, List.setIfInBounds_toArray, List.set_cons_zero, List.set_cons_succ, List.getElem_toArray, List.getElem_cons_succ, List.getElem_cons_zero]
        refine wpAnyH_done (by kernel_rfl) ?_ _
        have FQ : Hid (DW w0 wb v5 B g a n cap q { x with store := x.store ++ [⟨c0, 0⟩] } d1 l1 k1 d' (l2 + 1) k' ∧ Res r v5 ∧ Wb 300 60 { x with store := x.store ++ [⟨c0, 0⟩] }) := ⟨D.out, RS.out, (by have := HX.out.1.1; simp; omega), (by have := HX.out.1.2.1; simp; omega), HX.out.1.2.2⟩
        clear D RS
        go_wp2
        go_meet
        case rel => exact ⟨rfl, _, _, _, _, _, _, _, FQ⟩
      refine AllReadyH.cons rfl (fun K hK => ?_) AllReadyH.nil
      · skip
        go_simp
        have D0 := D
        have ga := World.grownBy_alloc u0 (.cells #[.int .i64 (-9), .int .i64 4611686018427387904, .int .i64 (-4611686018427387904), .int .i64 4611686018427387903] 3) none
        clear D
        have D : Hid (DW w0 wb (u0.alloc (.cells #[.int .i64 (-9), .int .i64 4611686018427387904, .int .i64 (-4611686018427387904), .int .i64 4611686018427387903] 3)) B g a n cap q x d1 l1 k1 d2 l2 k2) := D0.out.none ga
        have RS0 := RS
        have RS2 : Hid (Res r (u0.alloc (.cells #[.int .i64 (-9), .int .i64 4611686018427387904, .int .i64 (-4611686018427387904), .int .i64 4611686018427387903] 3))) := RS.out.none ga
        clear RS
        have RS := RS2
        clear RS2
        clear ga
        refine hK.out _ _ trivial (fun hH2 => ?_)
        clear hK K hH
        have hH := hH2
        clear hH2
        simp only [Act.put, List.setIfInBounds_toArray, List.set_cons_zero, List.set_cons_succ, List.getElem_toArray, List.getElem_cons_succ, List.getElem_cons_zero]
        refine wpAnyH_ready (rs := [1, 4]) (by kernel_rfl) (by simp) ?_
        refine AllReadyH.cons rfl (fun K hK => ?_) ?_
        · skip
          have yy := (blkWorld D.out.box).1
          obtain ⟨y0, y1, y2, y3⟩ := yy
          go_simp
          refine hK.out _ _ trivial (fun hH2 => ?_)
          clear hK K hH
          have hH := hH2
          clear hH2
          simp only [Act.put, List.setIfInBounds_toArray, List.set_cons_zero, List.set_cons_succ, List.getElem_toArray, List.getElem_cons_succ, List.getElem_cons_zero]
          clear y0 y1 y2 y3
          refine wpAnyH_ready (rs := [4]) (by kernel_rfl) (by simp) ?_
          refine AllReadyH.cons rfl (fun K hK => ?_) AllReadyH.nil
          go_simp
          refine Calls.mono (pickIn w0 u0 g a n cap zs HZ.out.1 HZ.out.2.1 HZ.out.2.2 D0.out.cur [(-9), 4611686018427387904, (-4611686018427387904), 4611686018427387903] (by decide) (by decide)) ?_
          rintro e v6 ⟨c0, rfl, hmem, hk⟩
          clear D
          have D : Hid (DW w0 wb v6 B g a n cap q x d1 l1 k1 d2 l2 k2) := D0.out.drawn hk
          clear D0 hmem
          have RS2 : Hid (Res r v6) := RS0.out.drawn hk RG.out
          clear RS RS0
          have RS := RS2
          clear RS2
          clear hk
          refine hK.out _ _ trivial (fun hH2 => ?_)
          clear hK K hH
          have hH := hH2
          clear hH2
          simp only [Act.put, List.setIfInBounds_toArray, List.set_cons_zero, List.set_cons_succ, List.getElem_toArray, List.getElem_cons_succ, List.getElem_cons_zero]
          refine wpAnyH_take (i := 5) (v := ?_) rfl (by kernel_rfl) (by kernel_rfl) (by kernel_rfl) (fun _ _ _ h => h) (Or.inl ⟨by rfl, ?_⟩) hH ?_
          rotate_left
          · (intro v hS; go_simp; try with_reducible rfl)
          simp only [Act.put, List.setIfInBounds_toArray, List.set_cons_zero, List.set_cons_succ, List.getElem_toArray, List.getElem_cons_succ, List.getElem_cons_zero]
          refine wpAnyH_ready (rs := [6]) (by kernel_rfl) (by simp) ?_
          refine AllReadyH.cons rfl (fun K hK => ?_) AllReadyH.nil
          go_simp
          have ga := World.grownBy_alloc v6 (.cells #[.int .i64 c0, .int .i64 0] 66) none
          have ba := heap_alloc_new v6 (.cells #[.int .i64 c0, .int .i64 0] 66)
          have D2 : Hid (DW w0 wb (v6.alloc (.cells #[.int .i64 c0, .int .i64 0] 66)) B g a n cap q x d1 l1 k1 d2 l2 k2) := D.out.none ga
          clear D
          have RS2 : Hid (Res r (v6.alloc (.cells #[.int .i64 c0, .int .i64 0] 66))) := RS.out.none ga
          clear RS
          have RS := RS2
          clear RS2
          have NB : Hid ((v6.alloc (.cells #[.int .i64 c0, .int .i64 0] 66)).heap[v6.heap.size]? = some (Obj.cells #[.int .i64 c0, .int .i64 0] 66 (0, 0))) := ba
          clear ga ba
          generalize (v6.alloc (.cells #[.int .i64 c0, .int .i64 0] 66)) = v7 at *
          generalize v6.heap.size = b8 at *
          have D := D2
          clear D2
          refine hK.out _ _ trivial (fun hH2 => ?_)
          clear hK K hH
          have hH := hH2
          clear hH2
          simp only [Act.put, List.setIfInBounds_toArray, List.set_cons_zero, List.set_cons_succ, List.getElem_toArray, List.getElem_cons_succ, List.getElem_cons_zero]
          refine wpAnyH_ready (rs := [7]) (by kernel_rfl) (by simp) ?_
          refine AllReadyH.cons rfl (fun K hK => ?_) AllReadyH.nil
          obtain ⟨i0, hi0, hz0, hz1, hz2⟩ := info_parts infoYe
          refine step_ofY rfl (wp_append_own _ (.tmp 36) (.tmp 41) 24 rfl B 66 i0 _ 2 16 Try.underlying24 hi0 hz0 hz1 hz2 rfl (by decide) (.slice d2 l2 k2) l2 (vE x.store) rfl D.out.st ⟨b8, 0, none⟩ 1 1 [.int .i64 c0, .int .i64 0] rfl rfl (cellsE NB.out) (oneE _ _) (by unfold maxLen; omega) (by omega) D.out.Bu ?_)
          intro vv v9 ho hg _
          obtain ⟨d', k', rfl⟩ := row_slice ho
          rw [vE_snoc] at ho
          have AP : Hid _ := D.out.app2 hg ho
          have RS2 : Hid (Res r v9) := RS.out.row hg (fun b e => (row_blk D.out.st b e).2) (by decide)
          clear RS
          have RS := RS2
          clear RS2
          clear hg ho D NB i0 hi0 hz0 hz1 hz2
          refine hK.out _ _ trivial (fun hH2 => ?_)
          clear hK K hH
          have hH := hH2
          clear hH2
          simp only [Act.put, List.setIfInBounds_toArray, List.set_cons_zero, List.set_cons_succ, List.getElem_toArray, List.getElem_cons_succ, List.getElem_cons_zero]
          refine wpAnyH_take (i := 8) (v := ?_) rfl (by kernel_rfl) (by kernel_rfl) (by kernel_rfl) (fun _ _ _ h => h) (Or.inl ⟨by rfl, ?_⟩) hH ?_
          rotate_left
          · (intro v hS; go_simp; try with_reducible rfl)
          simp only [Act.put, List.setIfInBounds_toArray, List.set_cons_zero, List.set_cons_succ, List.getElem_toArray, List.getElem_cons_succ, List.getElem_cons_zero]
          refine wpAnyH_ready (rs := [9]) (by kernel_rfl) (by simp) ?_
          refine AllReadyH.cons rfl (fun K hK => ?_) AllReadyH.nil
          have yy := (blkWorld AP.out.1).1
          obtain ⟨y0, y1, y2, y3⟩ := yy
          have ff := (blkWorld AP.out.1).2 2
          go_simp
          have D : Hid _ := AP.out.2
          have RS2 : Hid (Res r (v9.setCell ⟨q, 2, none⟩ (.slice d' (l2 + 1) k'))) := RS.out.set RQ.out
          clear RS
          have RS := RS2
          clear RS2
          clear y0 y1 y2 y3 ff AP
          generalize (v9.setCell ⟨q, 2, none⟩ (.slice d' (l2 + 1) k')) = v10 at *
          refine hK.out _ _ trivial (fun hH2 => ?_)
          clear hK K hH
          have hH := hH2
          clear hH2
          simp only [Act.put, List.setIfInBounds_toArray, List.set_cons_zero, List.set_cons_succ, List.getElem_toArray, List.getElem_cons_succ, List.getElem_cons_zero]
          refine wpAnyH_done (by kernel_rfl) ?_ _
          have FQ : Hid (DW w0 wb v10 B g a n cap q { x with store := x.store ++ [⟨c0, 0⟩] } d1 l1 k1 d' (l2 + 1) k' ∧ Res r v10 ∧ Wb 300 60 { x with store := x.store ++ [⟨c0, 0⟩] }) := ⟨D.out, RS.out, (by have := HX.out.1.1; simp; omega), (by have := HX.out.1.2.1; simp; omega), HX.out.1.2.2⟩
          clear D RS
          go_wp2
          go_meet
          case rel => exact ⟨rfl, _, _, _, _, _, _, _, FQ⟩
        refine AllReadyH.cons rfl (fun K hK => ?_) AllReadyH.nil
        · skip
          go_simp
          refine Calls.mono (pickIn w0 u0 g a n cap zs HZ.out.1 HZ.out.2.1 HZ.out.2.2 D0.out.cur [(-9), 4611686018427387904, (-4611686018427387904), 4611686018427387903] (by decide) (by decide)) ?_
          rintro e v11 ⟨c0, rfl, hmem, hk⟩
          clear D
          have D : Hid (DW w0 wb v11 B g a n cap q x d1 l1 k1 d2 l2 k2) := D0.out.drawn hk
          clear D0 hmem
          have RS2 : Hid (Res r v11) := RS0.out.drawn hk RG.out
          clear RS RS0
          have RS := RS2
          clear RS2
          clear hk
          refine hK.out _ _ trivial (fun hH2 => ?_)
          clear hK K hH
          have hH := hH2
          clear hH2
          simp only [Act.put, List.setIfInBounds_toArray, List.set_cons_zero, List.set_cons_succ, List.getElem_toArray, List.getElem_cons_succ, List.getElem_cons_zero]
          refine wpAnyH_take (i := 5) (v := ?_) rfl (by kernel_rfl) (by kernel_rfl) (by kernel_rfl) (fun _ _ _ h => h) (Or.inl ⟨by rfl, ?_⟩) hH ?_
          rotate_left
          · (intro v hS; go_simp; try with_reducible rfl)
          simp only [Act.put, List.setIfInBounds_toArray, List.set_cons_zero, List.set_cons_succ, List.getElem_toArray, List.getElem_cons_succ, List.getElem_cons_zero]
          refine wpAnyH_ready (rs := [1, 6]) (by kernel_rfl) (by simp) ?_
          refine AllReadyH.cons rfl (fun K hK => ?_) ?_
          · skip
            have yy := (blkWorld D.out.box).1
            obtain ⟨y0, y1, y2, y3⟩ := yy
            go_simp
            refine hK.out _ _ trivial (fun hH2 => ?_)
            clear hK K hH
            have hH := hH2
            clear hH2
            simp only [Act.put, List.setIfInBounds_toArray, List.set_cons_zero, List.set_cons_succ, List.getElem_toArray, List.getElem_cons_succ, List.getElem_cons_zero]
            clear y0 y1 y2 y3
            refine wpAnyH_ready (rs := [6]) (by kernel_rfl) (by simp) ?_
            refine AllReadyH.cons rfl (fun K hK => ?_) AllReadyH.nil
            go_simp
            have ga := World.grownBy_alloc v11 (.cells #[.int .i64 c0, .int .i64 0] 66) none
            have ba := heap_alloc_new v11 (.cells #[.int .i64 c0, .int .i64 0] 66)
            have D2 : Hid (DW w0 wb (v11.alloc (.cells #[.int .i64 c0, .int .i64 0] 66)) B g a n cap q x d1 l1 k1 d2 l2 k2) := D.out.none ga
            clear D
            have RS2 : Hid (Res r (v11.alloc (.cells #[.int .i64 c0, .int .i64 0] 66))) := RS.out.none ga
            clear RS
            have RS := RS2
            clear RS2
            have NB : Hid ((v11.alloc (.cells #[.int .i64 c0, .int .i64 0] 66)).heap[v11.heap.size]? = some (Obj.cells #[.int .i64 c0, .int .i64 0] 66 (0, 0))) := ba
            clear ga ba
            generalize (v11.alloc (.cells #[.int .i64 c0, .int .i64 0] 66)) = v12 at *
            generalize v11.heap.size = b13 at *
            have D := D2
            clear D2
            refine hK.out _ _ trivial (fun hH2 => ?_)
            clear hK K hH
            have hH := hH2
            clear hH2
            simp only [Act.put, List.setIfInBounds_toArray, List.set_cons_zero, List.set_cons_succ, List.getElem_toArray, List.getElem_cons_succ, List.getElem_cons_zero]
            refine wpAnyH_ready (rs := [7]) (by kernel_rfl) (by simp) ?_
            refine AllReadyH.cons rfl (fun K hK => ?_) AllReadyH.nil
            obtain ⟨i0, hi0, hz0, hz1, hz2⟩ := info_parts infoYe
            refine step_ofY rfl (wp_append_own _ (.tmp 36) (.tmp 41) 24 rfl B 66 i0 _ 2 16 Try.underlying24 hi0 hz0 hz1 hz2 rfl (by decide) (.slice d2 l2 k2) l2 (vE x.store) rfl D.out.st ⟨b13, 0, none⟩ 1 1 [.int .i64 c0, .int .i64 0] rfl rfl (cellsE NB.out) (oneE _ _) (by unfold maxLen; omega) (by omega) D.out.Bu ?_)
            intro vv v14 ho hg _
            obtain ⟨d', k', rfl⟩ := row_slice ho
            rw [vE_snoc] at ho
            have AP : Hid _ := D.out.app2 hg ho
            have RS2 : Hid (Res r v14) := RS.out.row hg (fun b e => (row_blk D.out.st b e).2) (by decide)
            clear RS
            have RS := RS2
            clear RS2
            clear hg ho D NB i0 hi0 hz0 hz1 hz2
            refine hK.out _ _ trivial (fun hH2 => ?_)
            clear hK K hH
            have hH := hH2
            clear hH2
            simp only [Act.put, List.setIfInBounds_toArray, List.set_cons_zero, List.set_cons_succ, List.getElem_toArray, List.getElem_cons_succ, List.getElem_cons_zero]
            refine wpAnyH_take (i := 8) (v := ?_) rfl (by kernel_rfl) (by kernel_rfl) (by kernel_rfl) (fun _ _ _ h => h) (Or.inl ⟨by rfl, ?_⟩) hH ?_
            rotate_left
            · (intro v hS; go_simp; try with_reducible rfl)
            simp only [Act.put, List.setIfInBounds_toArray, List.set_cons_zero, List.set_cons_succ, List.getElem_toArray, List.getElem_cons_succ, List.getElem_cons_zero]
            refine wpAnyH_ready (rs := [9]) (by kernel_rfl) (by simp) ?_
            refine AllReadyH.cons rfl (fun K hK => ?_) AllReadyH.nil
            have yy := (blkWorld AP.out.1).1
            obtain ⟨y0, y1, y2, y3⟩ := yy
            have ff := (blkWorld AP.out.1).2 2
            go_simp
            have D : Hid _ := AP.out.2
            have RS2 : Hid (Res r (v14.setCell ⟨q, 2, none⟩ (.slice d' (l2 + 1) k'))) := RS.out.set RQ.out
            clear RS
            have RS := RS2
            clear RS2
            clear y0 y1 y2 y3 ff AP
            generalize (v14.setCell ⟨q, 2, none⟩ (.slice d' (l2 + 1) k')) = v15 at *
            refine hK.out _ _ trivial (fun hH2 => ?_)
            clear hK K hH
            have hH := hH2
            clear hH2
            simp only [Act.put, List.setIfInBounds_toArray, List.set_cons_zero, List.set_cons_succ, List.getElem_toArray, List.getElem_cons_succ, List.getElem_cons_zero]
            refine wpAnyH_done (by kernel_rfl) ?_ _
            have FQ : Hid (DW w0 wb v15 B g a n cap q { x with store := x.store ++ [⟨c0, 0⟩] } d1 l1 k1 d' (l2 + 1) k' ∧ Res r v15 ∧ Wb 300 60 { x with store := x.store ++ [⟨c0, 0⟩] }) := ⟨D.out, RS.out, (by have := HX.out.1.1; simp; omega), (by have := HX.out.1.2.1; simp; omega), HX.out.1.2.2⟩
            clear D RS
            go_wp2
            go_meet
            case rel => exact ⟨rfl, _, _, _, _, _, _, _, FQ⟩
          refine AllReadyH.cons rfl (fun K hK => ?_) AllReadyH.nil
          · skip
            go_simp
            have ga := World.grownBy_alloc v11 (.cells #[.int .i64 c0, .int .i64 0] 66) none
            have ba := heap_alloc_new v11 (.cells #[.int .i64 c0, .int .i64 0] 66)
            have D2 : Hid (DW w0 wb (v11.alloc (.cells #[.int .i64 c0, .int .i64 0] 66)) B g a n cap q x d1 l1 k1 d2 l2 k2) := D.out.none ga
            clear D
            have RS2 : Hid (Res r (v11.alloc (.cells #[.int .i64 c0, .int .i64 0] 66))) := RS.out.none ga
            clear RS
            have RS := RS2
            clear RS2
            have NB : Hid ((v11.alloc (.cells #[.int .i64 c0, .int .i64 0] 66)).heap[v11.heap.size]? = some (Obj.cells #[.int .i64 c0, .int .i64 0] 66 (0, 0))) := ba
            clear ga ba
            generalize (v11.alloc (.cells #[.int .i64 c0, .int .i64 0] 66)) = v16 at *
            generalize v11.heap.size = b17 at *
            have D := D2
            clear D2
            refine hK.out _ _ trivial (fun hH2 => ?_)
            clear hK K hH
            have hH := hH2
            clear hH2
            simp only [Act.put, List.setIfInBounds_toArray, List.set_cons_zero, List.set_cons_succ, List.getElem_toArray, List.getElem_cons_succ, List.getElem_cons_zero]
            refine wpAnyH_ready (rs := [1]) (by kernel_rfl) (by simp) ?_
            refine AllReadyH.cons rfl (fun K hK => ?_) AllReadyH.nil
            have yy := (blkWorld D.out.box).1
            obtain ⟨y0, y1, y2, y3⟩ := yy
            go_simp
            refine hK.out _ _ trivial (fun hH2 => ?_)
            clear hK K hH
            have hH := hH2
            clear hH2
            simp only [Act.put, List.setIfInBounds_toArray, List.set_cons_zero, List.set_cons_succ, List.getElem_toArray, List.getElem_cons_succ, List.getElem_cons_zero]
            clear y0 y1 y2 y3
            refine wpAnyH_ready (rs := [7]) (by kernel_rfl) (by simp) ?_
            refine AllReadyH.cons rfl (fun K hK => ?_) AllReadyH.nil
            obtain ⟨i0, hi0, hz0, hz1, hz2⟩ := info_parts infoYe
            refine step_ofY rfl (wp_append_own _ (.tmp 36) (.tmp 41) 24 rfl B 66 i0 _ 2 16 Try.underlying24 hi0 hz0 hz1 hz2 rfl (by decide) (.slice d2 l2 k2) l2 (vE x.store) rfl D.out.st ⟨b17, 0, none⟩ 1 1 [.int .i64 c0, .int .i64 0] rfl rfl (cellsE NB.out) (oneE _ _) (by unfold maxLen; omega) (by omega) D.out.Bu ?_)
            intro vv v18 ho hg _
            obtain ⟨d', k', rfl⟩ := row_slice ho
            rw [vE_snoc] at ho
            have AP : Hid _ := D.out.app2 hg ho
            have RS2 : Hid (Res r v18) := RS.out.row hg (fun b e => (row_blk D.out.st b e).2) (by decide)
            clear RS
            have RS := RS2
            clear RS2
            clear hg ho D NB i0 hi0 hz0 hz1 hz2
            refine hK.out _ _ trivial (fun hH2 => ?_)
            clear hK K hH
            have hH := hH2
            clear hH2
            simp only [Act.put, List.setIfInBounds_toArray, List.set_cons_zero, List.set_cons_succ, List.getElem_toArray, List.getElem_cons_succ, List.getElem_cons_zero]
            refine wpAnyH_take (i := 8) (v := ?_) rfl (by kernel_rfl) (by kernel_rfl) (by kernel_rfl) (fun _ _ _ h => h) (Or.inl ⟨by rfl, ?_⟩) hH ?_
            rotate_left
            · (intro v hS; go_simp; try with_reducible rfl)
            simp only [Act.put, List.setIfInBounds_toArray, List.set_cons_zero, List.set_cons_succ, List.getElem_toArray, List.getElem_cons_succ, List.getElem_cons_zero]
            refine wpAnyH_ready (rs := [9]) (by kernel_rfl) (by simp) ?_
            refine AllReadyH.cons rfl (fun K hK => ?_) AllReadyH.nil
            have yy := (blkWorld AP.out.1).1
            obtain ⟨y0, y1, y2, y3⟩ := yy
            have ff := (blkWorld AP.out.1).2 2
            go_simp
            have D : Hid _ := AP.out.2
            have RS2 : Hid (Res r (v18.setCell ⟨q, 2, none⟩ (.slice d' (l2 + 1) k'))) := RS.out.set RQ.out
            clear RS
            have RS := RS2
            clear RS2
            clear y0 y1 y2 y3 ff AP
            generalize (v18.setCell ⟨q, 2, none⟩ (.slice d' (l2 + 1) k')) = v19 at *
            refine hK.out _ _ trivial (fun hH2 => ?_)
            clear hK K hH
            have hH := hH2
            clear hH2
            simp only [Act.put, List.setIfInBounds_toArray, List.set_cons_zero, List.set_cons_succ, List.getElem_toArray, List.getElem_cons_succ, List.getElem_cons_zero]
            refine wpAnyH_done (by kernel_rfl) ?_ _
            have FQ : Hid (DW w0 wb v19 B g a n cap q { x with store := x.store ++ [⟨c0, 0⟩] } d1 l1 k1 d' (l2 + 1) k' ∧ Res r v19 ∧ Wb 300 60 { x with store := x.store ++ [⟨c0, 0⟩] }) := ⟨D.out, RS.out, (by have := HX.out.1.1; simp; omega), (by have := HX.out.1.2.1; simp; omega), HX.out.1.2.2⟩
            clear D RS
            go_wp2
            go_meet
            case rel => exact ⟨rfl, _, _, _, _, _, _, _, FQ⟩
    · go_wp2_with fail
      obtain ⟨i0, hi0, hz0, hz1, hz2⟩ := info_parts infoYe
      go_loopw [5] (fun i wr => ∃ (j : Nat) (ys : List REntry) (e2 : Option Addr) (m2 j2 : Nat), j ≤ 21 ∧ i = .int .i64 j ∧ Hid (DW w0 wb wr B g a n cap q { x with store := ys } d1 l1 k1 e2 m2 j2 ∧ Res r wr ∧ ys.length ≤ 3 + j)) (fun i _ => 22 - (intOf i).toNat)
      case atStart => exact ⟨0, x.store, d2, l2, k2, by omega, rfl, D.out, RS.out, HX.out.1.2.1⟩
      case round =>
        obtain ⟨j, ys, e2, m2, j2, hj, rfl, HL⟩ := hrel
        go_wp2_with fail
        refine Calls.mono (HB.out wr HL.out.1.cur 2 (by omega) (by omega)) ?_
        rintro e w4 ⟨c0, rfl, hc0, hc1, hk⟩
        have E : Hid (DW w0 wb w4 B g a n cap q { x with store := ys } d1 l1 k1 e2 m2 j2 ∧ Res r w4 ∧ ys.length ≤ 3 + j) := ⟨HL.out.1.drawn hk, HL.out.2.1.drawn hk RG.out, HL.out.2.2⟩
        clear hk HL D RS
        simp only []
        by_cases hlt : (j : Int) < 20 + c0
        · obtain ⟨⟨y0, y1, y2, y3⟩, -⟩ := blkWorld E.out.1.box
          have gA := World.grownBy_alloc w4 (.cells #[.int .i64 (100 + j), .int .i64 0] 66) none
          have bA := heap_alloc_new w4 (.cells #[.int .i64 (100 + j), .int .i64 0] 66)
          have EA : Hid (DW w0 wb (w4.alloc (.cells #[.int .i64 (100 + j), .int .i64 0] 66)) B g a n cap q { x with store := ys } d1 l1 k1 e2 m2 j2 ∧ Res r (w4.alloc (.cells #[.int .i64 (100 + j), .int .i64 0] 66)) ∧ ys.length ≤ 3 + j) := ⟨E.out.1.none gA, E.out.2.1.none gA, E.out.2.2⟩
          have NB : Hid _ := cellsE bA
          have hl2 : m2 ≤ 24 := by have := E.out.1.len2; have := E.out.2.2; simp only at *; omega
          clear gA bA E
          go_wp2_with (at_builtin; go_must (refine wpList_append_own _ rfl (.tmp 54) (.tmp 58) 24 rfl B 66 i0 _ 2 16 Try.underlying24 hi0 hz0 hz1 hz2 rfl (by decide) (.slice e2 m2 j2) m2 (vE ys) rfl EA.out.1.st ⟨w4.heap.size, 0, none⟩ 1 1 [.int .i64 (100 + j), .int .i64 0] rfl rfl NB.out (oneE _ _) (by unfold maxLen; omega) (by omega) EA.out.1.Bu ?_))
          intro vv w5 ho hg _
          obtain ⟨d', k', rfl⟩ := row_slice ho
          rw [vE_snoc] at ho
          have AP : Hid _ := EA.out.1.app2 hg ho
          have RS5 : Hid (Res r w5) := EA.out.2.1.row hg (fun b e => (row_blk EA.out.1.st b e).2) (by decide)
          obtain ⟨⟨z0, z1, z2, z3⟩, hfz⟩ := blkWorld AP.out.1
          have fz2 := hfz 2
          have E5 : Hid (DW w0 wb (w5.setCell ⟨q, 2, none⟩ (.slice d' (m2 + 1) k')) B g a n cap q { x with store := ys ++ [⟨100 + j, 0⟩] } d1 l1 k1 d' (m2 + 1) k' ∧ Res r (w5.setCell ⟨q, 2, none⟩ (.slice d' (m2 + 1) k')) ∧ (ys ++ [(⟨100 + j, 0⟩ : REntry)]).length ≤ 3 + (j + 1)) := ⟨AP.out.2, RS5.out.set RQ.out, by have := EA.out.2.2; simp; omega⟩
          clear ho hg hfz AP RS5 EA NB y0 y1 y2 y3
          go_wp2
          go_roundw
          case rel => exact ⟨j + 1, _, d', m2 + 1, k', by omega, by go_num, E5⟩
          case measure => simp [intOf]; omega
        · have FQ : Hid (DW w0 wb w4 B g a n cap q { x with store := ys } d1 l1 k1 e2 m2 j2 ∧ Res r w4 ∧ Wb 300 60 { x with store := ys }) := ⟨E.out.1, E.out.2.1, Nat.le_trans HX.out.1.1 (by omega), (by have := E.out.2.2; simp only; omega), HX.out.1.2.2⟩
          clear E
          go_wp2
          go_meet
          case rel => exact ⟨rfl, _, _, _, _, _, _, _, FQ⟩
    · go_wp2_with fail
      refine Calls.mono (HB.out w3 D.out.cur 2 (by omega) (by omega)) ?_
      rintro e w4 ⟨c0, rfl, hc0, hc1, hk⟩
      obtain ⟨n0, rfl⟩ : ∃ n0 : Nat, c0 = n0 := ⟨c0.toNat, by omega⟩
      have D4 : Hid (DW w0 wb w4 B g a n cap q x d1 l1 k1 d2 l2 k2) := D.out.drawn hk
      have RS4 : Hid (Res r w4) := RS.out.drawn hk RG.out
      clear hk D RS
      simp only []
      have hmk : ∀ v, (Instr.makeSlice 23 (.int .i64 (200 + (n0 : Int))) (.int .i64 (200 + (n0 : Int)))).run Try.prog v = .ok (.slice (some ⟨v.heap.size, 0, none⟩) (200 + n0) (200 + n0)) (v.alloc (.cells (madeCells #[.int .i64 0] (200 + n0)) 3)) := fun v => by
        have h9 := makeI (200 + n0) (by omega) v
        rw [show ((200 + n0 : Nat) : Int) = 200 + (n0 : Int) by omega] at h9
        exact h9
      have gm := World.grownBy_alloc w4 (.cells (madeCells #[.int .i64 0] (200 + n0)) 3) none
      have bm := heap_alloc_new w4 (.cells (madeCells #[.int .i64 0] (200 + n0)) 3)
      have D5 : Hid (DW w0 wb (w4.alloc (.cells (madeCells #[.int .i64 0] (200 + n0)) 3)) B g a n cap q x d1 l1 k1 d2 l2 k2) := D4.out.none gm
      have RS5 : Hid (Res r (w4.alloc (.cells (madeCells #[.int .i64 0] (200 + n0)) 3))) := RS4.out.none gm
      have OW : Hid ((w4.alloc (.cells (madeCells #[.int .i64 0] (200 + n0)) 3)).ownsRow B 3 1 (.slice (some ⟨w4.heap.size, 0, none⟩) (200 + n0) (200 + n0)) (200 + n0) (vI (List.replicate (200 + n0) 0))) := by
        refine ⟨by rw [vI_len]; simp, .inr ⟨w4.heap.size, 200 + n0, _, rfl, D4.out.Bu, bm, Nat.le_refl _, by unfold maxLen; omega, by have := congrArg List.length (toList_madeCells_one (.int .i64 0) (200 + n0)); simpa using this, ?_⟩⟩
        rw [toList_madeCells_one]
        simp [vI]
      obtain ⟨⟨y0, y1, y2, y3⟩, hfy⟩ := blkWorld D5.out.box
      have fy1 := hfy 1
      have FQ : Hid (DW w0 wb ((w4.alloc (.cells (madeCells #[.int .i64 0] (200 + n0)) 3)).setCell ⟨q, 1, none⟩ (.slice (some ⟨w4.heap.size, 0, none⟩) (200 + n0) (200 + n0))) B g a n cap q { x with draws := List.replicate (200 + n0) 0 } (some ⟨w4.heap.size, 0, none⟩) (200 + n0) (200 + n0) d2 l2 k2 ∧ Res r ((w4.alloc (.cells (madeCells #[.int .i64 0] (200 + n0)) 3)).setCell ⟨q, 1, none⟩ (.slice (some ⟨w4.heap.size, 0, none⟩) (200 + n0) (200 + n0))) ∧ Wb 300 60 { x with draws := List.replicate (200 + n0) 0 }) := by
        have h9 := D5.out
        exact ⟨DW.setRow (x' := { x with draws := List.replicate (200 + n0) 0 }) ⟨h9.cur, h9.gr, h9.gB, h9.Bu, h9.tr, OW.out, h9.st⟩ h9.Bq h9.box 1 _ rfl, RS5.out.set RQ.out, by simp; omega, Nat.le_trans HX.out.1.2.1 (by omega), HX.out.1.2.2⟩
      clear gm bm D5 RS5 OW hfy RS4
      go_wp2
      go_meet
      case rel => exact ⟨rfl, _, _, _, _, _, _, _, FQ⟩
  case rest =>
  obtain ⟨rfl, y, e1, m1, j1, e2, m2, j2, HQ⟩ := hcut
  obtain ⟨⟨y0, y1, y2, y3⟩, -⟩ := blkWorld HQ.out.1.box
  obtain ⟨⟨z0, z1, z2, z3⟩, hfz⟩ := blkWorld HQ.out.2.1
  have fz0 := hfz 0
  have fz1 := hfz 1
  have fz2 := hfz 2
  have fz3 := hfz 3
  obtain ⟨mf, kf⟩ := fillWorld (.int .i64 y.ticks) (.slice e1 m1 j1) (.slice e2 m2 j2) (.slice none 0 0) HQ.out.2.1
  have nqr := RQ.out
  have FQ : Hid _ := And.intro mf (And.intro (HQ.out.1.toDR.fill kf BR.out HQ.out.2.1) HQ.out.2.2)
  clear mf kf hfz HQ
  go_wp2
  (try simp only [Exit.inBlock, Exit.then])
  refine bodyPost_ret (results_cell_row (P := Try.prog) Try.results21 _ _ _ _ _ _ _ rfl FQ.out.1 Try.underlying27 rfl (by kernel_rfl)) rfl ?_
  exact ⟨y, e1, m1, j1, e2, m2, j2, rfl, FQ.out.2.1, FQ.out.2.2⟩
end Go.Proofs.Ytccnninmkfhejaa.By
