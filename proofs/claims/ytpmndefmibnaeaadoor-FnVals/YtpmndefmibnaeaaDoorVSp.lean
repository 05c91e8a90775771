/-
  The document's way to show a value, by its contract. No statement is proved here.
-/
import Derived.Test.YtpmndefmibnaeaaDoorVL
import Derived.Deep.DeepCutAuto
import Derived.Deep.CutBlock
namespace Go.Proofs.YtpmndefmibnaeaaDoor.By
open Go.RowKit
set_option linter.unusedVariables false
set_option linter.unusedSimpArgs false

theorem spV_leaf (cells : V) (d : Nat) (b : List Int) (x : RVal) (h : leafQ x = true) : spV cells d b x = b ++ leafV x := by cases d <;> simp [spV, h]
theorem spV_zero (cells : V) (b : List Int) (x : RVal) (h : leafQ x = false) : spV cells 0 b x = b ++ [46, 46] := by simp [spV, h]
theorem spV_none (cells : V) (d : Nat) (b : List Int) (x : RVal) (h : leafQ x = false) (h0 : (prt cells x).len = 0) : spV cells (d + 1) b x = b ++ headV x := by simp [spV, h, h0]
theorem spV_some (cells : V) (d : Nat) (b : List Int) (x : RVal) (h : leafQ x = false) (h0 : (prt cells x).len ≠ 0) : spV cells (d + 1) b x = loopS (spV cells d) (b ++ headV x ++ [40]) true (prt cells x) := by simp [spV, h, h0]
theorem loopS_cn (f : List Int → RVal → List Int) (b : List Int) (first : Bool) (x : RVal) (r : V) : loopS f b first (V.cn x r) = if 30000 < (f (if first then b else b ++ [44, 32]) x).length then f (if first then b else b ++ [44, 32]) x else loopS f (f (if first then b else b ++ [44, 32]) x) false r := rfl

theorem InVal.nth {w wp : World} : ∀ (xs : V) {b o : Nat} (i : Nat), InVal w wp xs b o → i < xs.len → ∃ a1 l1 c1 a2 l2 c2, (w.cell? ⟨b, o + i * 4, none⟩ = some (.int .i64 (xs.nth i).k) ∧ w.cell? ⟨b, o + i * 4 + 1, none⟩ = some (.int .i64 (xs.nth i).n) ∧ w.cell? ⟨b, o + i * 4 + 2, none⟩ = some (.slice a1 l1 c1) ∧ w.cell? ⟨b, o + i * 4 + 3, none⟩ = some (.slice a2 l2 c2)) ∧ l1 ≤ c1 ∧ RdVal wp (xs.nth i) a1 l1 a2 l2 := by
  intro xs
  induction xs with
  | nil => intro b o i _ h; simp [V.len] at h
  | cons k n t d r _ ih =>
    intro b o i h hi
    cases i with
    | zero =>
      obtain ⟨⟨a1, l1, c1, a2, l2, c2, hc, hl, ht, hd⟩, -⟩ := h
      exact ⟨a1, l1, c1, a2, l2, c2, by simpa [V.nth] using hc, hl, ht, hd⟩
    | succ i =>
      have := ih i h.2 (by simp only [V.len] at hi; omega)
      rw [show o + 4 + i * 4 = o + (i + 1) * 4 by omega] at this
      exact this

/-- A byte in a block of its own, which is not the row's. -/
def Kp (p : Nat) (ch : Int) (v : Value) (u : World) : Prop := u.heap[p]? = some (.cells #[.int .u8 ch] 5 (0, 0)) ∧ v.ownBlock ≠ some p
theorem Kp.step {p : Nat} {ch : Int} {B : Nat} {v v2 : Value} {zs : List Int} {u u2 : World} (h : Kp p ch v u) (s : SayG B u v v2 zs u2) : Kp p ch v2 u2 := by
  refine ⟨(s.gr.block p (lt_of_block h.1) (fun e => h.2 e.symm)).trans h.1, fun e => ?_⟩
  rcases s.blk with e2 | e2
  · exact h.2 (e2.symm.trans e)
  · have := e2 p e; have := lt_of_block h.1; omega
theorem Kp.grown {p : Nat} {ch : Int} {v : Value} {u u2 : World} (h : Kp p ch v u) (g : u.grownBy u2 none) : Kp p ch v u2 := ⟨(g.block p (lt_of_block h.1) (by simp)).trans h.1, h.2⟩
theorem Kp.new {B n : Nat} {ch : Int} {v : Value} {xs : List Value} {u : World} (h : u.ownsRow B 5 1 v n xs) : Kp u.heap.size ch v (u.alloc (.cells #[.int .u8 ch] 5)) := ⟨heap_alloc_new u _, fun e => by have := (h.lt _ e).2; omega⟩
theorem Kp.reads {p : Nat} {ch : Int} {v : Value} {u : World} (h : Kp p ch v u) : Reads u (some ⟨p, 0, none⟩) 1 [ch] := by
  refine ⟨rfl, .inr ⟨p, 0, rfl, fun i hi => ?_⟩⟩
  obtain rfl : i = 0 := by omega
  rw [cell_of_row u p _ _ 5 (0, 0) h.1]; rfl

theorem cle_belowV {W0 u : World} (h : Below W0.heap.size W0 u) : CLe W0 u := fun p v hv => by rw [h.cell (p := p) (block_lt_of_cell hv)]; exact hv
/-- What a list of parts lies in while the row grows. -/
def PtI (W0 w : World) (v : Value) (p : V) (b off : Nat) : Prop := InVal w W0 p b off ∧ b < w.heap.size ∧ v.ownBlock ≠ some b
theorem PtI.step {W0 w u : World} {B : Nat} {v v2 : Value} {zs : List Int} {p : V} {b off : Nat} (h : PtI W0 w v p b off) (s : SayG B w v v2 zs u) : PtI W0 u v2 p b off := by
  obtain ⟨h1, h2, h3⟩ := h
  have e := s.gr.block b h2 (fun e => h3 e.symm)
  refine ⟨h1.move (fun i x _ hv => by rw [cell_any (w := w) (p := ⟨b, off + i, none⟩) e]; exact hv) (fun p x hv => hv), Nat.lt_of_lt_of_le h2 s.gr.size, fun e2 => ?_⟩
  rcases s.blk with e3 | e3
  · exact h3 (e3.symm.trans e2)
  · have := e3 b e2; omega
theorem PtI.grown {W0 w u : World} {v : Value} {p : V} {b off : Nat} (h : PtI W0 w v p b off) (g : w.grownBy u none) : PtI W0 u v p b off :=
  ⟨h.1.le (CLe.grown g) (fun p x hv => hv), Nat.lt_of_lt_of_le h.2.1 g.size, h.2.2⟩
def PtR (W0 w : World) (v : Value) (a : Option Addr) (l : Nat) (p : V) : Prop := p.len = l ∧ l ≤ 9223372036854775807 ∧ (l = 0 ∨ ∃ b o, a = some ⟨b, o, none⟩ ∧ PtI W0 w v p b o)

structure ShB (W0 : World) (cells : V) (ca : Option Addr) (cl : Nat) : Prop where
  sl : SlVal W0 ca cl cells
  sz : cells.size ≤ 1048576
  ok : okN cells
def ShC (W0 : World) (cells : V) (ca : Option Addr) (cl cc : Nat) (d : Nat) : Prop := ∀ (x : RVal) (a1 : Option Addr) (l1 c1 : Nat) (a2 : Option Addr) (l2 c2 : Nat) (v : Value) (zs : List Int) (w : World), RdVal W0 x a1 l1 a2 l2 → szVal x ≤ 1048576 → okX x → Below W0.heap.size W0 w → w.ownsRow W0.heap.size 5 1 v zs.length (vals zs) → zs.length + 24 * d ≤ 30200 →
  Calls Tryd.prog 22 #[v, .agg #[.int .i64 x.k, .int .i64 x.n, .slice a1 l1 c1, .slice a2 l2 c2], .slice ca cl cc, .int .i64 d] w fun e u => ∃ v', e = .returned v' ∧ SayG W0.heap.size w v v' (spV cells d zs x) u








set_option maxRecDepth 8000 in
set_option maxHeartbeats 8000000 in
theorem sh_of (W0 : World) (cells : V) (ca : Option Addr) (cl cc : Nat) (hC : ShB W0 cells ca cl) (d : Nat) (hd8 : d ≤ 8) (ih : ∀ d', d = d' + 1 → ShC W0 cells ca cl cc d') : ShC W0 cells ca cl cc d := by
  intro x a1 l1 c1 a2 l2 c2 v zs w h hsz hok hb ho hlen
  obtain ⟨k, n, t, dl⟩ := x
  obtain ⟨i0, hi, hz0, hz1, hz2⟩ := info_parts infoS
  have hB := hb.size
  simp only [] at hsz hok h ⊢
  have hn := hok.1
  simp only [] at hn
  have htl : t.length ≤ 1048576 := by have := hsz; unfold szVal at this; simp only [] at this; omega
  have ht1 : t.length = l1 := h.1.1.1
  have g0 := World.grownBy_alloc w (.cells #[.int .i64 k, .int .i64 n, .slice a1 l1 c1, .slice a2 l2 c2] 31) none
  have b0 := heap_alloc_new w (.cells #[.int .i64 k, .int .i64 n, .slice a1 l1 c1, .slice a2 l2 c2] 31)
  have H0 : Hid (SayG W0.heap.size w v v zs (w.alloc (.cells #[.int .i64 k, .int .i64 n, .slice a1 l1 c1, .slice a2 l2 c2] 31))) := (SayG.start ho hB).grown g0
  have AL : Hid (SayG W0.heap.size (w.alloc (.cells #[.int .i64 k, .int .i64 n, .slice a1 l1 c1, .slice a2 l2 c2] 31)) v v zs (w.alloc (.cells #[.int .i64 k, .int .i64 n, .slice a1 l1 c1, .slice a2 l2 c2] 31))) := H0.out.re
  have hne : v.ownBlock ≠ some w.heap.size := fun e => by have := (ho.lt _ e).2; omega
  have HT : Hid (∀ u, (w.alloc (.cells #[.int .i64 k, .int .i64 n, .slice a1 l1 c1, .slice a2 l2 c2] 31)).grownBy u v.ownBlock → (u.cell? ⟨w.heap.size, 0, none⟩ = some (.int .i64 k) ∧ u.cell? ⟨w.heap.size, 1, none⟩ = some (.int .i64 n) ∧ u.cell? ⟨w.heap.size, 2, none⟩ = some (.slice a1 l1 c1) ∧ u.cell? ⟨w.heap.size, 3, none⟩ = some (.slice a2 l2 c2))) := fun u hu => (blkVal ((hu.block _ (lt_of_block b0) (fun e => hne e.symm)).trans b0)).1
  have HB : Hid (∀ u, (w.alloc (.cells #[.int .i64 k, .int .i64 n, .slice a1 l1 c1, .slice a2 l2 c2] 31)).grownBy u v.ownBlock → Below W0.heap.size W0 u) := fun u hu => (hb.grown g0 hB (fun k hk => by cases hk)).grown hu (Nat.le_trans hB g0.size) (fun g hg => (ho.lt g hg).1)
  have IH : Hid _ := ih
  have HS : Hid (RdVal W0 ⟨k, n, t, dl⟩ a1 l1 a2 l2 ∧ ShB W0 cells ca cl) := ⟨h, hC⟩
  have HF : Hid (okX ⟨k, n, t, dl⟩ ∧ szVal ⟨k, n, t, dl⟩ ≤ 1048576) := ⟨hok, hsz⟩
  clear ih h hb ho hok hC hsz g0 b0 hne
  obtain ⟨D, hD⟩ : ∃ D : Int, D = ((d : Nat) : Int) := ⟨_, rfl⟩
  rw [← hD]
  go_enter Tryd.func22, Tryd.ntmps22
  go_upto_region 1 with fail
  generalize w.alloc (.cells #[.int .i64 k, .int .i64 n, .slice a1 l1 c1, .slice a2 l2 c2] 31) = w1 at *
  generalize w.heap.size = q at *
  obtain ⟨x0, x1, x2, x3⟩ := HT.out _ AL.out.gr
  by_cases h0 : k = 0
  · subst h0
    have EF : Hid (zs ++ [40, 41] = spV cells d zs ⟨0, n, t, dl⟩) := by show _ = _; rw [spV_leaf _ _ _ _ rfl]; rfl
    have hz9 : zs.length + ([40, 41] : List Int).length ≤ 4194304 := by simp only [List.length_cons, List.length_nil]; omega
    clear IH HS HF
    go_wp2_with (at_builtin; go_must (refine wpList_strG rfl _ _ 22 9 rfl W0.heap.size i0 Tryd.underlying22 Tryd.underlying9 hi hz0 hz1 hz2 v zs rfl AL.out.own _ [40, 41] rfl rfl hz9 AL.out.size ?_); intro v2 u2 s2)
    have FF : Hid (SayG W0.heap.size w v v2 (spV cells d zs ⟨0, n, t, dl⟩) u2) := (H0.out.trans (AL.out.trans s2)).as EF.out
    clear s2 AL H0
    go_ret
    exact ⟨v2, rfl, FF.out⟩
  by_cases h1 : k = 1
  · subst h1
    have EF : Hid (zs ++ intB n = spV cells d zs ⟨1, n, t, dl⟩) := by show _ = _; rw [spV_leaf _ _ _ _ rfl]; rfl
    have hil := intB_len20 hn.1 hn.2
    have hz9 : zs.length + (intB n).length ≤ 4194304 := by omega
    have CC : Hid _ := l3digitsW n w1 hn.1 hn.2
    clear IH HS HF
    go_wp2_with fail
    refine Calls.mono CC.out ?_
    rintro e u ⟨a3, c3, rfl, hg, hO⟩
    have AN : Hid (SayG _ _ _ _ _ u ∧ Reads u a3 (intB n).length (intB n)) := ⟨AL.out.grown hg, hO.reads⟩
    clear hg hO CC AL x0 x1 x2 x3
    simp only []
    go_wp2_with (at_builtin; go_must (refine wpList_appG rfl _ _ 22 rfl W0.heap.size i0 (.int .u8 0) Tryd.underlying22 hi hz0 hz1 hz2 rfl v zs rfl AN.out.1.own a3 (intB n).length c3 (intB n) rfl AN.out.2 hz9 AN.out.1.size ?_); intro v9 u9 s9)
    have FF : Hid (SayG W0.heap.size w v v9 (spV cells d zs ⟨1, n, t, dl⟩) u9) := (H0.out.trans (AN.out.1.trans s9)).as EF.out
    clear AN s9 H0
    go_ret
    exact ⟨v9, rfl, FF.out⟩
  by_cases h4 : k = 4
  · subst h4
    have EF : Hid (zs ++ [102, 110] = spV cells d zs ⟨4, n, t, dl⟩) := by show _ = _; rw [spV_leaf _ _ _ _ rfl]; rfl
    have hz9 : zs.length + ([102, 110] : List Int).length ≤ 4194304 := by simp only [List.length_cons, List.length_nil]; omega
    clear IH HS HF
    go_wp2_with (at_builtin; go_must (refine wpList_strG rfl _ _ 22 9 rfl W0.heap.size i0 Tryd.underlying22 Tryd.underlying9 hi hz0 hz1 hz2 v zs rfl AL.out.own _ [102, 110] rfl rfl hz9 AL.out.size ?_); intro v2 u2 s2)
    have FF : Hid (SayG W0.heap.size w v v2 (spV cells d zs ⟨4, n, t, dl⟩) u2) := (H0.out.trans (AL.out.trans s2)).as EF.out
    clear s2 AL H0
    go_ret
    exact ⟨v2, rfl, FF.out⟩
  by_cases h2 : k = 2
  · subst h2
    have EF : Hid (((zs ++ [34]) ++ t) ++ [34] = spV cells d zs ⟨2, n, t, dl⟩) := by show _ = _; rw [spV_leaf _ _ _ _ rfl]; simp [leafV, List.append_assoc]
    have HX : Hid (∀ u, w1.grownBy u v.ownBlock → Reads u a1 l1 t) := fun u hu => (HS.out.1.1.le (cle_belowV (HB.out u hu))).1
    clear IH HS HF
    go_upto_region 9 with fail
    have AD : Hid (SayG _ _ _ _ _ w1.drew) := AL.out.grown (grown_drew (World.grownBy.refl _ none))
    clear AL x0 x1 x2 x3
    refine wp_region_held_drew (S := (fun u => u.cell? ⟨q, 0, none⟩ = some (.int .i64 2) ∧ u.cell? ⟨q, 1, none⟩ = some (.int .i64 n) ∧ u.cell? ⟨q, 2, none⟩ = some (.slice a1 l1 c1) ∧ u.cell? ⟨q, 3, none⟩ = some (.slice a2 l2 c2))) (by kernel_rfl) (HT.out _ AD.out.gr) (fun hH => ?_)
    have AL := AD
    clear AD
    generalize w1.drew = v0 at *
    simp only [List.size_toArray, List.length_cons, List.length_nil, Nat.reduceAdd, Array.replicate, List.replicate]
    refine wpAnyH_take (i := 0) (v := ?_) rfl (by kernel_rfl) (by kernel_rfl) (by kernel_rfl) (fun _ _ _ h => h) (Or.inl ⟨by rfl, ?_⟩) hH ?_
    rotate_left
    · (intro v hS; obtain ⟨s0, s1, s2, s3⟩ := hS; go_simp; try with_reducible rfl)
    simp only [Act.put, List.setIfInBounds_toArray, List.set_cons_zero, List.set_cons_succ, List.getElem_toArray, List.getElem_cons_succ, List.getElem_cons_zero]
    refine wpAnyH_take (i := 3) (v := ?_) rfl (by kernel_rfl) (by kernel_rfl) (by kernel_rfl) (fun _ _ _ h => h) (Or.inl ⟨by rfl, ?_⟩) hH ?_
    rotate_left
    · (intro v hS; obtain ⟨s0, s1, s2, s3⟩ := hS; go_simp; try with_reducible rfl)
    simp only [Act.put, List.setIfInBounds_toArray, List.set_cons_zero, List.set_cons_succ, List.getElem_toArray, List.getElem_cons_succ, List.getElem_cons_zero]
    refine wpAnyH_take (i := 4) (v := ?_) rfl (by kernel_rfl) (by kernel_rfl) (by kernel_rfl) (fun _ _ _ h => h) (Or.inl ⟨by rfl, ?_⟩) hH ?_
    rotate_left
    · (intro v hS; obtain ⟨s0, s1, s2, s3⟩ := hS; go_simp; try with_reducible rfl)
    simp only [Act.put, List.setIfInBounds_toArray, List.set_cons_zero, List.set_cons_succ, List.getElem_toArray, List.getElem_cons_succ, List.getElem_cons_zero]
    refine wpAnyH_ready (rs := [1, 6]) (by kernel_rfl) (by simp) ?_
    refine AllReadyH.cons rfl (fun K hK => ?_) ?_
    · skip
      go_simp
      have KP1 : Hid (Kp _ 34 _ (v0.alloc (.cells #[.int .u8 34] 5))) := Kp.new AL.out.own
      have AN : Hid (SayG _ _ _ _ _ (v0.alloc (.cells #[.int .u8 34] 5))) := AL.out.grown (World.grownBy_alloc _ _ _)
      skip
      clear AL
      have AL := AN
      clear AN
      generalize v0.alloc (.cells #[.int .u8 34] 5) = v1 at *
      generalize v0.heap.size = p1 at *
      refine hK.out _ _ (HT.out _ AL.out.gr) (fun hH2 => ?_)
      clear hK K hH
      have hH := hH2
      clear hH2
      simp only [Act.put, List.setIfInBounds_toArray, List.set_cons_zero, List.set_cons_succ, List.getElem_toArray, List.getElem_cons_succ, List.getElem_cons_zero]
      refine wpAnyH_ready (rs := [2, 6]) (by kernel_rfl) (by simp) ?_
      refine AllReadyH.cons rfl (fun K hK => ?_) ?_
      · skip
        refine step_of rfl (wp_appG _ _ 22 rfl W0.heap.size i0 (.int .u8 0) Tryd.underlying22 hi hz0 hz1 hz2 rfl _ _ rfl AL.out.own (some ⟨p1, 0, none⟩) 1 1 [34] rfl KP1.out.reads (by (try simp only [List.length_append, List.length_singleton]); omega) AL.out.size ?_)
        intro v2 u2 s2
        have AN : Hid (SayG _ _ _ v2 _ u2) := AL.out.trans s2
        clear KP1
        clear AL s2
        have AL := AN
        clear AN
        refine hK.out _ _ (HT.out _ AL.out.gr) (fun hH2 => ?_)
        clear hK K hH
        have hH := hH2
        clear hH2
        simp only [Act.put, List.setIfInBounds_toArray, List.set_cons_zero, List.set_cons_succ, List.getElem_toArray, List.getElem_cons_succ, List.getElem_cons_zero]
        refine wpAnyH_ready (rs := [5, 6]) (by kernel_rfl) (by simp) ?_
        refine AllReadyH.cons rfl (fun K hK => ?_) ?_
        · skip
          refine step_of rfl (wp_appG _ _ 22 rfl W0.heap.size i0 (.int .u8 0) Tryd.underlying22 hi hz0 hz1 hz2 rfl _ _ rfl AL.out.own a1 l1 c1 t rfl (HX.out _ AL.out.gr) (by (try simp only [List.length_append, List.length_singleton]); omega) AL.out.size ?_)
          intro v3 u3 s2
          have AN : Hid (SayG _ _ _ v3 _ u3) := AL.out.trans s2
          skip
          clear AL s2
          have AL := AN
          clear AN
          refine hK.out _ _ (HT.out _ AL.out.gr) (fun hH2 => ?_)
          clear hK K hH
          have hH := hH2
          clear hH2
          simp only [Act.put, List.setIfInBounds_toArray, List.set_cons_zero, List.set_cons_succ, List.getElem_toArray, List.getElem_cons_succ, List.getElem_cons_zero]
          refine wpAnyH_ready (rs := [6]) (by kernel_rfl) (by simp) ?_
          refine AllReadyH.cons rfl (fun K hK => ?_) AllReadyH.nil
          · skip
            go_simp
            have KP6 : Hid (Kp _ 34 _ (u3.alloc (.cells #[.int .u8 34] 5))) := Kp.new AL.out.own
            have AN : Hid (SayG _ _ _ _ _ (u3.alloc (.cells #[.int .u8 34] 5))) := AL.out.grown (World.grownBy_alloc _ _ _)
            skip
            clear AL
            have AL := AN
            clear AN
            generalize u3.alloc (.cells #[.int .u8 34] 5) = u4 at *
            generalize u3.heap.size = p6 at *
            refine hK.out _ _ (HT.out _ AL.out.gr) (fun hH2 => ?_)
            clear hK K hH
            have hH := hH2
            clear hH2
            simp only [Act.put, List.setIfInBounds_toArray, List.set_cons_zero, List.set_cons_succ, List.getElem_toArray, List.getElem_cons_succ, List.getElem_cons_zero]
            refine wpAnyH_ready (rs := [7]) (by kernel_rfl) (by simp) ?_
            refine AllReadyH.cons rfl (fun K hK => ?_) AllReadyH.nil
            refine step_of rfl (wp_appG _ _ 22 rfl W0.heap.size i0 (.int .u8 0) Tryd.underlying22 hi hz0 hz1 hz2 rfl _ _ rfl AL.out.own (some ⟨p6, 0, none⟩) 1 1 [34] rfl KP6.out.reads (by (try simp only [List.length_append, List.length_singleton]); omega) AL.out.size ?_)
            intro v5 u5 s2
            have AN : Hid (SayG _ _ _ v5 _ u5) := AL.out.trans s2
            clear KP6
            clear AL s2
            have AL := AN
            clear AN
            refine hK.out _ _ (HT.out _ AL.out.gr) (fun hH2 => ?_)
            clear hK K hH
            have hH := hH2
            clear hH2
            simp only [Act.put, List.setIfInBounds_toArray, List.set_cons_zero, List.set_cons_succ, List.getElem_toArray, List.getElem_cons_succ, List.getElem_cons_zero]
            refine wpAnyH_take (i := 8) (v := ?_) rfl (by kernel_rfl) (by kernel_rfl) (by kernel_rfl) (fun _ _ _ h => h) (Or.inl ⟨by rfl, ?_⟩) hH ?_
            rotate_left
            · (intro v hS; go_simp; try with_reducible rfl)
            simp only [Act.put, List.setIfInBounds_toArray, List.set_cons_zero, List.set_cons_succ, List.getElem_toArray, List.getElem_cons_succ, List.getElem_cons_zero]
            refine wpAnyH_done (by kernel_rfl) ?_ _
            clear hH
            have FF : Hid (SayG W0.heap.size w v v5 (spV cells d zs ⟨2, n, t, dl⟩) _) := (H0.out.trans AL.out).as EF.out
            clear AL H0
            go_wp2
            go_ret
            exact ⟨v5, rfl, FF.out⟩
        refine AllReadyH.cons rfl (fun K hK => ?_) AllReadyH.nil
        · skip
          go_simp
          have KP6 : Hid (Kp _ 34 _ (u2.alloc (.cells #[.int .u8 34] 5))) := Kp.new AL.out.own
          have AN : Hid (SayG _ _ _ _ _ (u2.alloc (.cells #[.int .u8 34] 5))) := AL.out.grown (World.grownBy_alloc _ _ _)
          skip
          clear AL
          have AL := AN
          clear AN
          generalize u2.alloc (.cells #[.int .u8 34] 5) = u4 at *
          generalize u2.heap.size = p6 at *
          refine hK.out _ _ (HT.out _ AL.out.gr) (fun hH2 => ?_)
          clear hK K hH
          have hH := hH2
          clear hH2
          simp only [Act.put, List.setIfInBounds_toArray, List.set_cons_zero, List.set_cons_succ, List.getElem_toArray, List.getElem_cons_succ, List.getElem_cons_zero]
          refine wpAnyH_ready (rs := [5]) (by kernel_rfl) (by simp) ?_
          refine AllReadyH.cons rfl (fun K hK => ?_) AllReadyH.nil
          refine step_of rfl (wp_appG _ _ 22 rfl W0.heap.size i0 (.int .u8 0) Tryd.underlying22 hi hz0 hz1 hz2 rfl _ _ rfl AL.out.own a1 l1 c1 t rfl (HX.out _ AL.out.gr) (by (try simp only [List.length_append, List.length_singleton]); omega) AL.out.size ?_)
          intro v3 u3 s2
          have AN : Hid (SayG _ _ _ v3 _ u3) := AL.out.trans s2
          have KP7 : Hid (Kp _ _ _ _) := KP6.out.step s2
          clear AL s2
          have AL := AN
          clear AN
          refine hK.out _ _ (HT.out _ AL.out.gr) (fun hH2 => ?_)
          clear hK K hH
          have hH := hH2
          clear hH2
          simp only [Act.put, List.setIfInBounds_toArray, List.set_cons_zero, List.set_cons_succ, List.getElem_toArray, List.getElem_cons_succ, List.getElem_cons_zero]
          refine wpAnyH_ready (rs := [7]) (by kernel_rfl) (by simp) ?_
          refine AllReadyH.cons rfl (fun K hK => ?_) AllReadyH.nil
          refine step_of rfl (wp_appG _ _ 22 rfl W0.heap.size i0 (.int .u8 0) Tryd.underlying22 hi hz0 hz1 hz2 rfl _ _ rfl AL.out.own (some ⟨p6, 0, none⟩) 1 1 [34] rfl KP7.out.reads (by (try simp only [List.length_append, List.length_singleton]); omega) AL.out.size ?_)
          intro v5 u5 s2
          have AN : Hid (SayG _ _ _ v5 _ u5) := AL.out.trans s2
          clear KP7
          clear AL s2
          have AL := AN
          clear AN
          refine hK.out _ _ (HT.out _ AL.out.gr) (fun hH2 => ?_)
          clear hK K hH
          have hH := hH2
          clear hH2
          simp only [Act.put, List.setIfInBounds_toArray, List.set_cons_zero, List.set_cons_succ, List.getElem_toArray, List.getElem_cons_succ, List.getElem_cons_zero]
          refine wpAnyH_take (i := 8) (v := ?_) rfl (by kernel_rfl) (by kernel_rfl) (by kernel_rfl) (fun _ _ _ h => h) (Or.inl ⟨by rfl, ?_⟩) hH ?_
          rotate_left
          · (intro v hS; go_simp; try with_reducible rfl)
          simp only [Act.put, List.setIfInBounds_toArray, List.set_cons_zero, List.set_cons_succ, List.getElem_toArray, List.getElem_cons_succ, List.getElem_cons_zero]
          refine wpAnyH_done (by kernel_rfl) ?_ _
          clear hH
          have FF : Hid (SayG W0.heap.size w v v5 (spV cells d zs ⟨2, n, t, dl⟩) _) := (H0.out.trans AL.out).as EF.out
          clear AL H0
          go_wp2
          go_ret
          exact ⟨v5, rfl, FF.out⟩
      refine AllReadyH.cons rfl (fun K hK => ?_) AllReadyH.nil
      · skip
        go_simp
        have KP6 : Hid (Kp _ 34 _ (v1.alloc (.cells #[.int .u8 34] 5))) := Kp.new AL.out.own
        have AN : Hid (SayG _ _ _ _ _ (v1.alloc (.cells #[.int .u8 34] 5))) := AL.out.grown (World.grownBy_alloc _ _ _)
        have KP2 : Hid (Kp _ _ _ (v1.alloc (.cells #[.int .u8 34] 5))) := KP1.out.grown (World.grownBy_alloc _ _ _)
        clear AL
        have AL := AN
        clear AN
        generalize v1.alloc (.cells #[.int .u8 34] 5) = u4 at *
        generalize v1.heap.size = p6 at *
        refine hK.out _ _ (HT.out _ AL.out.gr) (fun hH2 => ?_)
        clear hK K hH
        have hH := hH2
        clear hH2
        simp only [Act.put, List.setIfInBounds_toArray, List.set_cons_zero, List.set_cons_succ, List.getElem_toArray, List.getElem_cons_succ, List.getElem_cons_zero]
        refine wpAnyH_ready (rs := [2]) (by kernel_rfl) (by simp) ?_
        refine AllReadyH.cons rfl (fun K hK => ?_) AllReadyH.nil
        refine step_of rfl (wp_appG _ _ 22 rfl W0.heap.size i0 (.int .u8 0) Tryd.underlying22 hi hz0 hz1 hz2 rfl _ _ rfl AL.out.own (some ⟨p1, 0, none⟩) 1 1 [34] rfl KP2.out.reads (by (try simp only [List.length_append, List.length_singleton]); omega) AL.out.size ?_)
        intro v2 u2 s2
        have AN : Hid (SayG _ _ _ v2 _ u2) := AL.out.trans s2
        have KP7 : Hid (Kp p6 _ _ _) := KP6.out.step s2
        clear AL s2
        have AL := AN
        clear AN
        refine hK.out _ _ (HT.out _ AL.out.gr) (fun hH2 => ?_)
        clear hK K hH
        have hH := hH2
        clear hH2
        simp only [Act.put, List.setIfInBounds_toArray, List.set_cons_zero, List.set_cons_succ, List.getElem_toArray, List.getElem_cons_succ, List.getElem_cons_zero]
        refine wpAnyH_ready (rs := [5]) (by kernel_rfl) (by simp) ?_
        refine AllReadyH.cons rfl (fun K hK => ?_) AllReadyH.nil
        refine step_of rfl (wp_appG _ _ 22 rfl W0.heap.size i0 (.int .u8 0) Tryd.underlying22 hi hz0 hz1 hz2 rfl _ _ rfl AL.out.own a1 l1 c1 t rfl (HX.out _ AL.out.gr) (by (try simp only [List.length_append, List.length_singleton]); omega) AL.out.size ?_)
        intro v3 u3 s2
        have AN : Hid (SayG _ _ _ v3 _ u3) := AL.out.trans s2
        have KP8 : Hid (Kp _ _ _ _) := KP7.out.step s2
        clear AL s2
        have AL := AN
        clear AN
        refine hK.out _ _ (HT.out _ AL.out.gr) (fun hH2 => ?_)
        clear hK K hH
        have hH := hH2
        clear hH2
        simp only [Act.put, List.setIfInBounds_toArray, List.set_cons_zero, List.set_cons_succ, List.getElem_toArray, List.getElem_cons_succ, List.getElem_cons_zero]
        refine wpAnyH_ready (rs := [7]) (by kernel_rfl) (by simp) ?_
        refine AllReadyH.cons rfl (fun K hK => ?_) AllReadyH.nil
        refine step_of rfl (wp_appG _ _ 22 rfl W0.heap.size i0 (.int .u8 0) Tryd.underlying22 hi hz0 hz1 hz2 rfl _ _ rfl AL.out.own (some ⟨p6, 0, none⟩) 1 1 [34] rfl KP8.out.reads (by (try simp only [List.length_append, List.length_singleton]); omega) AL.out.size ?_)
        intro v5 u5 s2
        have AN : Hid (SayG _ _ _ v5 _ u5) := AL.out.trans s2
        clear KP8
        clear AL s2
        have AL := AN
        clear AN
        refine hK.out _ _ (HT.out _ AL.out.gr) (fun hH2 => ?_)
        clear hK K hH
        have hH := hH2
        clear hH2
        simp only [Act.put, List.setIfInBounds_toArray, List.set_cons_zero, List.set_cons_succ, List.getElem_toArray, List.getElem_cons_succ, List.getElem_cons_zero]
        refine wpAnyH_take (i := 8) (v := ?_) rfl (by kernel_rfl) (by kernel_rfl) (by kernel_rfl) (fun _ _ _ h => h) (Or.inl ⟨by rfl, ?_⟩) hH ?_
        rotate_left
        · (intro v hS; go_simp; try with_reducible rfl)
        simp only [Act.put, List.setIfInBounds_toArray, List.set_cons_zero, List.set_cons_succ, List.getElem_toArray, List.getElem_cons_succ, List.getElem_cons_zero]
        refine wpAnyH_done (by kernel_rfl) ?_ _
        clear hH
        have FF : Hid (SayG W0.heap.size w v v5 (spV cells d zs ⟨2, n, t, dl⟩) _) := (H0.out.trans AL.out).as EF.out
        clear AL H0
        go_wp2
        go_ret
        exact ⟨v5, rfl, FF.out⟩
    refine AllReadyH.cons rfl (fun K hK => ?_) AllReadyH.nil
    · skip
      go_simp
      have KP6 : Hid (Kp _ 34 _ (v0.alloc (.cells #[.int .u8 34] 5))) := Kp.new AL.out.own
      have AN : Hid (SayG _ _ _ _ _ (v0.alloc (.cells #[.int .u8 34] 5))) := AL.out.grown (World.grownBy_alloc _ _ _)
      skip
      clear AL
      have AL := AN
      clear AN
      generalize v0.alloc (.cells #[.int .u8 34] 5) = v1 at *
      generalize v0.heap.size = p6 at *
      refine hK.out _ _ (HT.out _ AL.out.gr) (fun hH2 => ?_)
      clear hK K hH
      have hH := hH2
      clear hH2
      simp only [Act.put, List.setIfInBounds_toArray, List.set_cons_zero, List.set_cons_succ, List.getElem_toArray, List.getElem_cons_succ, List.getElem_cons_zero]
      refine wpAnyH_ready (rs := [1]) (by kernel_rfl) (by simp) ?_
      refine AllReadyH.cons rfl (fun K hK => ?_) AllReadyH.nil
      · skip
        go_simp
        have KP1 : Hid (Kp _ 34 _ (v1.alloc (.cells #[.int .u8 34] 5))) := Kp.new AL.out.own
        have AN : Hid (SayG _ _ _ _ _ (v1.alloc (.cells #[.int .u8 34] 5))) := AL.out.grown (World.grownBy_alloc _ _ _)
        have KP2 : Hid (Kp _ _ _ (v1.alloc (.cells #[.int .u8 34] 5))) := KP6.out.grown (World.grownBy_alloc _ _ _)
        clear AL
        have AL := AN
        clear AN
        generalize v1.alloc (.cells #[.int .u8 34] 5) = u4 at *
        generalize v1.heap.size = p1 at *
        refine hK.out _ _ (HT.out _ AL.out.gr) (fun hH2 => ?_)
        clear hK K hH
        have hH := hH2
        clear hH2
        simp only [Act.put, List.setIfInBounds_toArray, List.set_cons_zero, List.set_cons_succ, List.getElem_toArray, List.getElem_cons_succ, List.getElem_cons_zero]
        refine wpAnyH_ready (rs := [2]) (by kernel_rfl) (by simp) ?_
        refine AllReadyH.cons rfl (fun K hK => ?_) AllReadyH.nil
        refine step_of rfl (wp_appG _ _ 22 rfl W0.heap.size i0 (.int .u8 0) Tryd.underlying22 hi hz0 hz1 hz2 rfl _ _ rfl AL.out.own (some ⟨p1, 0, none⟩) 1 1 [34] rfl KP1.out.reads (by (try simp only [List.length_append, List.length_singleton]); omega) AL.out.size ?_)
        intro v2 u2 s2
        have AN : Hid (SayG _ _ _ v2 _ u2) := AL.out.trans s2
        have KP7 : Hid (Kp p6 _ _ _) := KP2.out.step s2
        clear AL s2
        have AL := AN
        clear AN
        refine hK.out _ _ (HT.out _ AL.out.gr) (fun hH2 => ?_)
        clear hK K hH
        have hH := hH2
        clear hH2
        simp only [Act.put, List.setIfInBounds_toArray, List.set_cons_zero, List.set_cons_succ, List.getElem_toArray, List.getElem_cons_succ, List.getElem_cons_zero]
        refine wpAnyH_ready (rs := [5]) (by kernel_rfl) (by simp) ?_
        refine AllReadyH.cons rfl (fun K hK => ?_) AllReadyH.nil
        refine step_of rfl (wp_appG _ _ 22 rfl W0.heap.size i0 (.int .u8 0) Tryd.underlying22 hi hz0 hz1 hz2 rfl _ _ rfl AL.out.own a1 l1 c1 t rfl (HX.out _ AL.out.gr) (by (try simp only [List.length_append, List.length_singleton]); omega) AL.out.size ?_)
        intro v3 u3 s2
        have AN : Hid (SayG _ _ _ v3 _ u3) := AL.out.trans s2
        have KP8 : Hid (Kp _ _ _ _) := KP7.out.step s2
        clear AL s2
        have AL := AN
        clear AN
        refine hK.out _ _ (HT.out _ AL.out.gr) (fun hH2 => ?_)
        clear hK K hH
        have hH := hH2
        clear hH2
        simp only [Act.put, List.setIfInBounds_toArray, List.set_cons_zero, List.set_cons_succ, List.getElem_toArray, List.getElem_cons_succ, List.getElem_cons_zero]
        refine wpAnyH_ready (rs := [7]) (by kernel_rfl) (by simp) ?_
        refine AllReadyH.cons rfl (fun K hK => ?_) AllReadyH.nil
        refine step_of rfl (wp_appG _ _ 22 rfl W0.heap.size i0 (.int .u8 0) Tryd.underlying22 hi hz0 hz1 hz2 rfl _ _ rfl AL.out.own (some ⟨p6, 0, none⟩) 1 1 [34] rfl KP8.out.reads (by (try simp only [List.length_append, List.length_singleton]); omega) AL.out.size ?_)
        intro v5 u5 s2
        have AN : Hid (SayG _ _ _ v5 _ u5) := AL.out.trans s2
        clear KP8
        clear AL s2
        have AL := AN
        clear AN
        refine hK.out _ _ (HT.out _ AL.out.gr) (fun hH2 => ?_)
        clear hK K hH
        have hH := hH2
        clear hH2
        simp only [Act.put, List.setIfInBounds_toArray, List.set_cons_zero, List.set_cons_succ, List.getElem_toArray, List.getElem_cons_succ, List.getElem_cons_zero]
        refine wpAnyH_take (i := 8) (v := ?_) rfl (by kernel_rfl) (by kernel_rfl) (by kernel_rfl) (fun _ _ _ h => h) (Or.inl ⟨by rfl, ?_⟩) hH ?_
        rotate_left
        · (intro v hS; go_simp; try with_reducible rfl)
        simp only [Act.put, List.setIfInBounds_toArray, List.set_cons_zero, List.set_cons_succ, List.getElem_toArray, List.getElem_cons_succ, List.getElem_cons_zero]
        refine wpAnyH_done (by kernel_rfl) ?_ _
        clear hH
        have FF : Hid (SayG W0.heap.size w v v5 (spV cells d zs ⟨2, n, t, dl⟩) _) := (H0.out.trans AL.out).as EF.out
        clear AL H0
        go_wp2
        go_ret
        exact ⟨v5, rfl, FF.out⟩
  have hq : leafQ ⟨k, n, t, dl⟩ = false := by simp [leafQ, h0, h1, h2, h4]
  cases d with
  | zero =>
    have hD0 : D ≤ 0 := by omega
    have EF : Hid (zs ++ [46, 46] = spV cells 0 zs ⟨k, n, t, dl⟩) := by show _ = _; rw [spV_zero _ _ _ hq]
    have hz9 : zs.length + ([46, 46] : List Int).length ≤ 4194304 := by simp only [List.length_cons, List.length_nil]; omega
    clear IH HS HF
    go_wp2_with (at_builtin; go_must (refine wpList_strG rfl _ _ 22 9 rfl W0.heap.size i0 Tryd.underlying22 Tryd.underlying9 hi hz0 hz1 hz2 v zs rfl AL.out.own _ [46, 46] rfl rfl hz9 AL.out.size ?_); intro v2 u2 s2)
    have FF : Hid (SayG W0.heap.size w v v2 (spV cells 0 zs ⟨k, n, t, dl⟩) u2) := (H0.out.trans (AL.out.trans s2)).as EF.out
    clear s2 AL H0
    go_ret
    exact ⟨v2, rfl, FF.out⟩
  | succ d =>
  have hD0 : ¬ D ≤ 0 := by omega
  have hDw : IntKind.i64.wrap (D - 1) = ((d : Nat) : Int) := by rw [IntWalk.i64_in _ ⟨by omega, by omega⟩]; omega
  clear hD
  have e0 : (k == 0) = false := by simpa using h0
  have e1 : (k == 1) = false := by simpa using h1
  have e2 : (k == 2) = false := by simpa using h2
  have e4 : (k == 4) = false := by simpa using h4
  have eD : decide (D ≤ 0) = false := decide_eq_false hD0
  go_upto_block 1 with fail
  try simp only [e0, e1, e2, e4, eD]
  clear e0 e1 e2 e4 eD
  have hcl : cells.len = cl := HS.out.2.sl.1
  have hcl1 := HS.out.2.sl.2.1
  go_cut [0, 9] (fun vrow lst wx => ∃ pa pl pc, lst = .slice pa pl pc ∧ Hid (SayG W0.heap.size w1 v vrow (zs ++ headV ⟨k, n, t, dl⟩) wx ∧ PtR W0 wx vrow pa pl (prt cells ⟨k, n, t, dl⟩)))
  case first =>
    by_cases h5 : k = 5
    · subst h5
      have hz9 : zs.length + ([114, 101, 102] : List Int).length ≤ 4194304 := by simp only [List.length_cons, List.length_nil]; omega
      go_upto_region 16 with (at_builtin; go_must (refine wpList_strG rfl _ _ 22 9 rfl W0.heap.size i0 Tryd.underlying22 Tryd.underlying9 hi hz0 hz1 hz2 v zs rfl AL.out.own _ [114, 101, 102] rfl rfl hz9 AL.out.size ?_); intro v2 u2 s2)
      have A2 : Hid (SayG W0.heap.size w1 v v2 (zs ++ headV ⟨5, n, t, dl⟩) u2) := (AL.out.trans s2).as rfl
      clear AL s2 x0 x1 x2 x3
      obtain ⟨x0, x1, x2, x3⟩ := HT.out _ A2.out.gr
      by_cases hn0 : 0 ≤ n
      · obtain ⟨i, rfl⟩ : ∃ i : Nat, n = (i : Int) := ⟨n.toNat, by omega⟩
        by_cases hil : i < cl
        · have hil' : (i : Int) < (cl : Int) := by omega
          rcases HS.out.2.sl.cases with ⟨e0, -⟩ | ⟨cb, co, rfl, hin, -⟩
          · omega
          obtain ⟨f1, m1, g1, f2, m2, g2, ⟨y0, y1, y2, y3⟩, hfl, hr⟩ := InVal.nth cells i hin (by omega)
          have kk := cle_belowV (HB.out _ A2.out.gr)
          replace y0 := kk _ _ y0
          replace y1 := kk _ _ y1
          replace y2 := kk _ _ y2
          replace y3 := kk _ _ y3
          have FF : Hid (SayG W0.heap.size w1 v v2 (zs ++ headV ⟨5, (i : Int), t, dl⟩) (u2.alloc (.cells #[.int .i64 (cells.nth i).k, .int .i64 (cells.nth i).n, .slice f1 m1 g1, .slice f2 m2 g2] 31)) ∧ PtR W0 (u2.alloc (.cells #[.int .i64 (cells.nth i).k, .int .i64 (cells.nth i).n, .slice f1 m1 g1, .slice f2 m2 g2] 31)) v2 (some ⟨u2.heap.size, 0, none⟩) 1 (prt cells ⟨5, (i : Int), t, dl⟩)) := by
            have bb := heap_alloc_new u2 (.cells #[.int .i64 (cells.nth i).k, .int .i64 (cells.nth i).n, .slice f1 m1 g1, .slice f2 m2 g2] 31)
            have ep : prt cells ⟨5, (i : Int), t, dl⟩ = V.cn (cells.nth i) .nil := by
              unfold prt
              rw [if_pos rfl, if_pos ⟨by simp, by simp only []; omega⟩]
              simp
            refine ⟨A2.out.grown (World.grownBy_alloc _ _ _), ?_⟩
            rw [ep]
            exact ⟨rfl, by omega, .inr ⟨_, _, rfl, InVal.mk (blkVal bb).1 hfl hr trivial, lt_of_block bb, fun e => by have := (A2.out.own.lt _ e).2; omega⟩⟩
          clear hr hin kk
          go_wp2
          go_meet
          case rel => exact ⟨_, _, _, rfl, FF⟩
        · have hil' : ¬ (i : Int) < (cl : Int) := by omega
          have FF : Hid (SayG W0.heap.size w1 v v2 (zs ++ headV ⟨5, (i : Int), t, dl⟩) u2 ∧ PtR W0 u2 v2 none 0 (prt cells ⟨5, (i : Int), t, dl⟩)) := by
            have ep : prt cells ⟨5, (i : Int), t, dl⟩ = .nil := by
              unfold prt
              rw [if_pos rfl, if_neg (by simp only []; omega)]
            rw [ep]
            exact ⟨A2.out, rfl, by omega, .inl rfl⟩
          go_wp2
          go_meet
          case rel => exact ⟨_, _, _, rfl, FF⟩
      · have FF : Hid (SayG W0.heap.size w1 v v2 (zs ++ headV ⟨5, n, t, dl⟩) u2 ∧ PtR W0 u2 v2 none 0 (prt cells ⟨5, n, t, dl⟩)) := by
          have ep : prt cells ⟨5, n, t, dl⟩ = .nil := by
            unfold prt
            rw [if_pos rfl, if_neg (by simp only []; omega)]
          rw [ep]
          exact ⟨A2.out, rfl, by omega, .inl rfl⟩
        go_wp2
        go_meet
        case rel => exact ⟨_, _, _, rfl, FF⟩
    · have PL : Hid (∀ u v2 zz, SayG W0.heap.size w1 v v2 zz u → PtR W0 u v2 a2 l2 (prt cells ⟨k, n, t, dl⟩)) := fun u v2 zz hs => by
        have ep : prt cells ⟨k, n, t, dl⟩ = dl := by unfold prt; rw [if_neg h5]
        rw [ep]
        have hd := HS.out.1.2
        refine ⟨hd.1, hd.2.1, ?_⟩
        rcases hd.2.2 with h9 | ⟨b, o, e, hin⟩
        · exact .inl h9
        · by_cases hl2 : l2 = 0
          · exact .inl hl2
          · have hbl : b < W0.heap.size := by
              have hdl : dl.len = l2 := hd.1
              obtain ⟨y, r, hy, -⟩ := V.cn_of_len (f := dl) (m := l2 - 1) (by omega)
              rw [hy] at hin
              obtain ⟨_, _, _, _, _, _, ⟨hc, -⟩, -⟩ := hin.cn
              exact block_lt_of_cell hc
            have hbw := HB.out u hs.gr
            exact .inr ⟨b, o, e, hin.le (cle_belowV hbw) (fun p v hv => hv), Nat.lt_of_lt_of_le hbl hbw.size, fun e => by have := (hs.own.lt _ e).1; omega⟩
      by_cases h6 : k = 6
      · subst h6
        have hil := intB_len20 hn.1 hn.2
        have CC : Hid _ := fun u => l3digitsW n u hn.1 hn.2
        go_upto_region 20 with fail
        have AD : Hid (SayG _ _ _ _ _ w1.drew) := AL.out.grown (grown_drew (World.grownBy.refl _ none))
        clear AL x0 x1 x2 x3
        refine wp_region_held_drew (S := (fun u => u.cell? ⟨q, 0, none⟩ = some (.int .i64 6) ∧ u.cell? ⟨q, 1, none⟩ = some (.int .i64 n) ∧ u.cell? ⟨q, 2, none⟩ = some (.slice a1 l1 c1) ∧ u.cell? ⟨q, 3, none⟩ = some (.slice a2 l2 c2))) (by kernel_rfl) (HT.out _ AD.out.gr) (fun hH => ?_)
        have AL := AD
        clear AD
        generalize w1.drew = v0 at *
        simp only [List.size_toArray, List.length_cons, List.length_nil, Nat.reduceAdd, Array.replicate, List.replicate]
        refine wpAnyH_take (i := 0) (v := ?_) rfl (by kernel_rfl) (by kernel_rfl) (by kernel_rfl) (fun _ _ _ h => h) (Or.inl ⟨by rfl, ?_⟩) hH ?_
        rotate_left
        · (intro v hS; obtain ⟨s0, s1, s2, s3⟩ := hS; go_simp; try with_reducible rfl)
        simp only [Act.put, List.setIfInBounds_toArray, List.set_cons_zero, List.set_cons_succ, List.getElem_toArray, List.getElem_cons_succ, List.getElem_cons_zero]
        refine wpAnyH_take (i := 3) (v := ?_) rfl (by kernel_rfl) (by kernel_rfl) (by kernel_rfl) (fun _ _ _ h => h) (Or.inl ⟨by rfl, ?_⟩) hH ?_
        rotate_left
        · (intro v hS; obtain ⟨s0, s1, s2, s3⟩ := hS; go_simp; try with_reducible rfl)
        simp only [Act.put, List.setIfInBounds_toArray, List.set_cons_zero, List.set_cons_succ, List.getElem_toArray, List.getElem_cons_succ, List.getElem_cons_zero]
        refine wpAnyH_take (i := 4) (v := ?_) rfl (by kernel_rfl) (by kernel_rfl) (by kernel_rfl) (fun _ _ _ h => h) (Or.inl ⟨by rfl, ?_⟩) hH ?_
        rotate_left
        · (intro v hS; obtain ⟨s0, s1, s2, s3⟩ := hS; go_simp; try with_reducible rfl)
        simp only [Act.put, List.setIfInBounds_toArray, List.set_cons_zero, List.set_cons_succ, List.getElem_toArray, List.getElem_cons_succ, List.getElem_cons_zero]
        refine wpAnyH_ready (rs := [1]) (by kernel_rfl) (by simp) ?_
        refine AllReadyH.cons rfl (fun K hK => ?_) AllReadyH.nil
        go_simp
        have KP1 : Hid (Kp _ 35 _ (v0.alloc (.cells #[.int .u8 35] 5))) := Kp.new AL.out.own
        have AN : Hid (SayG _ _ _ _ _ (v0.alloc (.cells #[.int .u8 35] 5))) := AL.out.grown (World.grownBy_alloc _ _ _)
        skip
        clear AL
        have AL := AN
        clear AN
        generalize v0.alloc (.cells #[.int .u8 35] 5) = v1 at *
        generalize v0.heap.size = p1 at *
        refine hK.out _ _ (HT.out _ AL.out.gr) (fun hH2 => ?_)
        clear hK K hH
        have hH := hH2
        clear hH2
        simp only [Act.put, List.setIfInBounds_toArray, List.set_cons_zero, List.set_cons_succ, List.getElem_toArray, List.getElem_cons_succ, List.getElem_cons_zero]
        refine wpAnyH_ready (rs := [2]) (by kernel_rfl) (by simp) ?_
        refine AllReadyH.cons rfl (fun K hK => ?_) AllReadyH.nil
        refine step_of rfl (wp_appG _ _ 22 rfl W0.heap.size i0 (.int .u8 0) Tryd.underlying22 hi hz0 hz1 hz2 rfl _ _ rfl AL.out.own (some ⟨p1, 0, none⟩) 1 1 [35] rfl KP1.out.reads (by (try simp only [List.length_append, List.length_singleton]); omega) AL.out.size ?_)
        intro v2 u2 s2
        have AN : Hid (SayG _ _ _ v2 _ u2) := AL.out.trans s2
        clear KP1
        clear AL s2
        have AL := AN
        clear AN
        refine hK.out _ _ (HT.out _ AL.out.gr) (fun hH2 => ?_)
        clear hK K hH
        have hH := hH2
        clear hH2
        simp only [Act.put, List.setIfInBounds_toArray, List.set_cons_zero, List.set_cons_succ, List.getElem_toArray, List.getElem_cons_succ, List.getElem_cons_zero]
        refine wpAnyH_ready (rs := [5]) (by kernel_rfl) (by simp) ?_
        refine AllReadyH.cons rfl (fun K hK => ?_) AllReadyH.nil
        go_simp
        refine Calls.mono (CC.out u2) ?_
        rintro e u4 ⟨a3, c3, he, hg4, hO4⟩
        subst he
        have AN : Hid (SayG _ _ _ _ _ u4 ∧ Reads u4 a3 (intB n).length (intB n)) := ⟨AL.out.grown hg4, hO4.reads⟩
        clear AL hg4 hO4
        have AL : Hid (SayG _ _ _ _ _ u4) := AN.out.1
        have RR : Hid _ := AN.out.2
        clear AN
        refine hK.out _ _ (HT.out _ AL.out.gr) (fun hH2 => ?_)
        clear hK K hH
        have hH := hH2
        clear hH2
        simp only [Act.put, List.setIfInBounds_toArray, List.set_cons_zero, List.set_cons_succ, List.getElem_toArray, List.getElem_cons_succ, List.getElem_cons_zero]
        refine wpAnyH_ready (rs := [6]) (by kernel_rfl) (by simp) ?_
        refine AllReadyH.cons rfl (fun K hK => ?_) AllReadyH.nil
        refine step_of rfl (wp_appG _ _ 22 rfl W0.heap.size i0 (.int .u8 0) Tryd.underlying22 hi hz0 hz1 hz2 rfl _ _ rfl AL.out.own a3 (intB n).length c3 (intB n) rfl RR.out (by (try simp only [List.length_append, List.length_singleton]); omega) AL.out.size ?_)
        intro v5 u5 s2
        have AN : Hid (SayG _ _ _ v5 _ u5) := AL.out.trans s2
        clear RR
        clear AL s2
        have AL := AN
        clear AN
        refine hK.out _ _ (HT.out _ AL.out.gr) (fun hH2 => ?_)
        clear hK K hH
        have hH := hH2
        clear hH2
        simp only [Act.put, List.setIfInBounds_toArray, List.set_cons_zero, List.set_cons_succ, List.getElem_toArray, List.getElem_cons_succ, List.getElem_cons_zero]
        refine wpAnyH_take (i := 7) (v := ?_) rfl (by kernel_rfl) (by kernel_rfl) (by kernel_rfl) (fun _ _ _ h => h) (Or.inl ⟨by rfl, ?_⟩) hH ?_
        rotate_left
        · (intro v hS; go_simp; try with_reducible rfl)
        simp only [Act.put, List.setIfInBounds_toArray, List.set_cons_zero, List.set_cons_succ, List.getElem_toArray, List.getElem_cons_succ, List.getElem_cons_zero]
        refine wpAnyH_done (by kernel_rfl) ?_ _
        clear hH
        have FF : Hid (SayG W0.heap.size w1 v v5 (zs ++ headV ⟨6, n, t, dl⟩) u5 ∧ _) := ⟨AL.out.as (by simp [headV, List.append_assoc]), PL.out _ _ _ AL.out⟩
        clear AL
        go_wp2
        go_meet
        case rel => exact ⟨_, _, _, rfl, FF⟩
      · have FF : Hid (SayG W0.heap.size w1 v v (zs ++ headV ⟨k, n, t, dl⟩) w1 ∧ _) := ⟨AL.out.as (by simp [headV, h5, h6]), PL.out _ _ _ AL.out⟩
        go_wp2
        go_meet
        case rel => exact ⟨_, _, _, rfl, FF⟩
  case rest =>
  obtain ⟨pa, pl, pc, rfl, HC⟩ := hcut
  clear AL x0 x1 x2 x3
  have hhl := headV_len HF.out.1
  have hpo : okP (prt cells ⟨k, n, t, dl⟩) := prt_okP cells _ HS.out.2.sz HF.out.2 HS.out.2.ok HF.out.1
  by_cases hp0 : pl = 0
  · subst hp0
    have FF : Hid (SayG W0.heap.size w v u0 (spV cells (d + 1) zs ⟨k, n, t, dl⟩) wc) := (H0.out.trans HC.out.1).as (spV_none cells d zs _ hq HC.out.2.1).symm
    clear HC H0 IH HS HF
    go_wp2
    go_ret
    exact ⟨u0, rfl, FF.out⟩
  have hp0' : ¬ ((pl : Int) = 0) := by omega
  have EH : Hid (spV cells (d + 1) zs ⟨k, n, t, dl⟩ = loopS (spV cells d) (zs ++ headV ⟨k, n, t, dl⟩ ++ [40]) true (prt cells ⟨k, n, t, dl⟩)) := spV_some cells d zs _ hq (by rw [HC.out.2.1]; exact hp0)
  have HP : Hid (okP (prt cells ⟨k, n, t, dl⟩) ∧ (prt cells ⟨k, n, t, dl⟩).len = pl) := ⟨hpo, HC.out.2.1⟩
  clear hpo
  obtain ⟨ZZ, hZ⟩ : ∃ ZZ, ZZ = spV cells (d + 1) zs ⟨k, n, t, dl⟩ := ⟨_, rfl⟩
  rw [← hZ] at EH
  have EZ : Hid (ZZ = spV cells (d + 1) zs ⟨k, n, t, dl⟩) := hZ
  clear hZ
  generalize prt cells ⟨k, n, t, dl⟩ = P at *
  have hzh : (zs ++ headV ⟨k, n, t, dl⟩).length + 24 * (d + 1) ≤ 30221 := by rw [List.length_append]; omega
  generalize zs ++ headV ⟨k, n, t, dl⟩ = zh at *
  obtain ⟨b, o, rfl, hpi⟩ : ∃ b o, pa = some ⟨b, o, none⟩ ∧ PtI W0 wc u0 P b o := by
    rcases HC.out.2.2.2 with h9 | h9
    · exact absurd h9 hp0
    · exact h9
  have hpl := HC.out.2.2.1
  have ga := World.grownBy_alloc wc (.cells #[.int .u8 40] 5) none
  have AN : Hid (SayG W0.heap.size w1 v u0 zh (wc.alloc (.cells #[.int .u8 40] 5)) ∧ Reads (wc.alloc (.cells #[.int .u8 40] 5)) (some ⟨wc.heap.size, 0, none⟩) 1 [40] ∧ PtI W0 (wc.alloc (.cells #[.int .u8 40] 5)) u0 P b o) := ⟨HC.out.1.grown ga, readsOneB wc 40 5, hpi.grown ga⟩
  have hz9 : zh.length + 1 ≤ 4194304 := by omega
  clear ga hpi HC hhl HF HS
  go_wp2_with (at_builtin; go_must (refine wpList_appG rfl _ _ 22 rfl W0.heap.size i0 (.int .u8 0) Tryd.underlying22 hi hz0 hz1 hz2 rfl u0 zh rfl AN.out.1.own (some ⟨wc.heap.size, 0, none⟩) 1 1 [40] rfl AN.out.2.1 hz9 AN.out.1.size ?_); intro v3 u3 s3)
  have A3 : Hid (SayG W0.heap.size w1 v v3 (zh ++ [40]) u3 ∧ PtI W0 u3 v3 P b (o + 0 * 4)) := ⟨AN.out.1.trans s3, by simpa using AN.out.2.2.step s3⟩
  clear AN s3 hz9
  go_loopw [0, 10] (fun vv i wr => ∃ (j : Nat) (R : V) (zj : List Int), j ≤ pl ∧ i = .int .i64 j ∧ R.len + j = pl ∧ zj.length + 24 * d ≤ 30200 ∧ (j ≠ 0 → zj.length ≤ 30000) ∧ Hid (okP R ∧ ZZ = loopS (spV cells d) zj (decide (j = 0)) R) ∧ Hid (SayG W0.heap.size w1 v vv zj wr ∧ PtI W0 wr vv R b (o + j * 4))) (fun _ i _ => pl - (intOf i).toNat)
  case atStart => exact ⟨0, P, zh ++ [40], Nat.zero_le _, rfl, HP.out.2, by rw [List.length_append, List.length_singleton]; omega, fun h => absurd rfl h, ⟨HP.out.1, EH.out⟩, A3⟩
  case round =>
    clear A3 EH HP
    obtain ⟨j, R, zj, hj, rfl, hRl, hzj, hzj0, HR, AL⟩ := hrel
    by_cases hlt : j < pl
    · obtain ⟨y, r, rfl, hr⟩ := V.cn_of_len (f := R) (m := R.len - 1) (by omega)
      obtain ⟨f1, m1, g1, f2, m2, g2, ⟨y0, y1, y2, y3⟩, hry, hrr⟩ := AL.out.2.1.cn
      rw [show o + j * 4 + 4 = o + (j + 1) * 4 by omega] at hrr
      have hyok := HR.out.1
      have HY : Hid (szVal y ≤ 1048576 ∧ okX y ∧ okP r ∧ RdVal W0 y f1 m1 f2 m2) := ⟨hyok.1, hyok.2.1, hyok.2.2, hry⟩
      clear hyok hry
      rw [V.len_cn] at hRl
      by_cases hj0 : j = 0
      · subst hj0
        have AX : Hid (SayG W0.heap.size w1 v u0 zj wr ∧ PtI W0 wr u0 r b (o + (0 + 1) * 4)) := ⟨AL.out.1, hrr, AL.out.2.2⟩
        have ER : Hid (ZZ = if 30000 < (spV cells d zj y).length then spV cells d zj y else loopS (spV cells d) (spV cells d zj y) false r) := HR.out.2
        have hzb := hzj
        simp only [Nat.zero_mul, Nat.add_zero] at y0 y1 y2 y3
        clear AL HR hrr
        have CC : Hid _ := IH.out d rfl y f1 m1 g1 f2 m2 g2 u0 zj wr HY.out.2.2.2 HY.out.1 HY.out.2.1 (HB.out _ AX.out.1.gr) AX.out.1.own hzb
        go_wp2_with fail
        refine Calls.mono CC.out ?_
        rintro e u4 ⟨v4, rfl, s4⟩
        obtain ⟨-, a4, c4, rfl, -⟩ := ownsS s4.own
        have AY : Hid (SayG W0.heap.size w1 v _ (spV cells d zj y) u4 ∧ PtI W0 u4 _ r b (o + (0 + 1) * 4)) := ⟨AX.out.1.trans s4, AX.out.2.step s4⟩
        clear AX CC s4 y0 y1 y2 y3
        generalize spV cells d zj y = zn at *
        simp only []
        by_cases hbig : 30000 < zn.length
        · have hbig' : (30000 : Int) < (zn.length : Int) := by omega
          have FF : Hid (SayG W0.heap.size w v (.slice a4 zn.length c4) ZZ u4) := (H0.out.trans AY.out.1).as (by rw [ER.out, if_pos hbig])
          clear AY H0 ER
          go_wp2
          go_ret
          exact ⟨_, rfl, FF.out.as EZ.out⟩
        · have hbig' : ¬ (30000 : Int) < (zn.length : Int) := by omega
          have EN : Hid (okP r ∧ ZZ = loopS (spV cells d) zn (decide (0 + 1 = 0)) r) := ⟨HY.out.2.2.1, by rw [ER.out, if_neg hbig]; rfl⟩
          clear ER HY
          go_wp2
          go_roundw
          case rel => exact ⟨0 + 1, r, zn, by omega, by go_num, by omega, by omega, fun _ => by omega, EN, AY⟩
          case measure => simp [intOf]; omega
      · have hj0' : (0 : Int) < (j : Int) := by omega
        have hzk := hzj0 hj0
        have AX : Hid (SayG W0.heap.size w1 v u0 zj wr ∧ PtI W0 wr u0 (V.cn y r) b (o + j * 4)) := AL.out
        have ER : Hid (ZZ = if 30000 < (spV cells d (zj ++ [44, 32]) y).length then spV cells d (zj ++ [44, 32]) y else loopS (spV cells d) (spV cells d (zj ++ [44, 32]) y) false r) := by
          have := HR.out.2
          rw [decide_eq_false hj0, loopS_cn] at this
          exact this
        have hz9 : zj.length + ([44, 32] : List Int).length ≤ 4194304 := by simp only [List.length_cons, List.length_nil]; omega
        have hzb : (zj ++ [44, 32]).length + 24 * d ≤ 30200 := by simp only [List.length_append, List.length_cons, List.length_nil]; omega
        clear AL HR hrr y0 y1 y2 y3
        go_upto_region 29 with (at_builtin; go_must (refine wpList_strG rfl _ _ 22 9 rfl W0.heap.size i0 Tryd.underlying22 Tryd.underlying9 hi hz0 hz1 hz2 u0 zj rfl AX.out.1.own _ [44, 32] rfl rfl hz9 AX.out.1.size ?_); intro v5 u5 s5)
        have AX2 : Hid (SayG W0.heap.size w1 v v5 (zj ++ [44, 32]) u5 ∧ PtI W0 u5 v5 (V.cn y r) b (o + j * 4)) := ⟨AX.out.1.trans s5, AX.out.2.step s5⟩
        clear AX s5 hz9
        obtain ⟨f1', m1', g1', f2', m2', g2', ⟨y0, y1, y2, y3⟩, hry, hrr⟩ := AX2.out.2.1.cn
        rw [show o + j * 4 + 4 = o + (j + 1) * 4 by omega] at hrr
        have HY2 : Hid (szVal y ≤ 1048576 ∧ okX y ∧ okP r ∧ RdVal W0 y f1' m1' f2' m2') := ⟨HY.out.1, HY.out.2.1, HY.out.2.2.1, hry⟩
        clear HY hry
        have HY := HY2
        have AX : Hid (SayG W0.heap.size w1 v v5 (zj ++ [44, 32]) u5 ∧ PtI W0 u5 v5 r b (o + (j + 1) * 4)) := ⟨AX2.out.1, hrr, AX2.out.2.2⟩
        clear AX2 HY2 hrr
        have CC : Hid _ := IH.out d rfl y f1' m1' g1' f2' m2' g2' v5 (zj ++ [44, 32]) u5 HY.out.2.2.2 HY.out.1 HY.out.2.1 (HB.out _ AX.out.1.gr) AX.out.1.own hzb
        go_wp2_with fail
        refine Calls.mono CC.out ?_
        rintro e u4 ⟨v4, rfl, s4⟩
        obtain ⟨-, a4, c4, rfl, -⟩ := ownsS s4.own
        have AY : Hid (SayG W0.heap.size w1 v _ (spV cells d (zj ++ [44, 32]) y) u4 ∧ PtI W0 u4 _ r b (o + (j + 1) * 4)) := ⟨AX.out.1.trans s4, AX.out.2.step s4⟩
        clear AX CC s4 y0 y1 y2 y3
        generalize spV cells d (zj ++ [44, 32]) y = zn at *
        simp only []
        by_cases hbig : 30000 < zn.length
        · have hbig' : (30000 : Int) < (zn.length : Int) := by omega
          have FF : Hid (SayG W0.heap.size w v (.slice a4 zn.length c4) ZZ u4) := (H0.out.trans AY.out.1).as (by rw [ER.out, if_pos hbig])
          clear AY H0 ER
          go_wp2
          go_ret
          exact ⟨_, rfl, FF.out.as EZ.out⟩
        · have hbig' : ¬ (30000 : Int) < (zn.length : Int) := by omega
          have EN : Hid (okP r ∧ ZZ = loopS (spV cells d) zn (decide (j + 1 = 0)) r) := ⟨HY.out.2.2.1, by rw [ER.out, if_neg hbig]; rfl⟩
          clear ER HY
          go_wp2
          go_roundw
          case rel => exact ⟨j + 1, r, zn, by omega, by go_num, by omega, by omega, fun _ => by omega, EN, AY⟩
          case measure => simp [intOf]; omega
    · obtain rfl : j = pl := by omega
      obtain rfl : R = .nil := V.nil_of_len (by omega)
      have ER : Hid (ZZ = zj ++ [41]) := HR.out.2
      have ga := World.grownBy_alloc wr (.cells #[.int .u8 41] 5) none
      have AN : Hid (SayG W0.heap.size w1 v u0 zj (wr.alloc (.cells #[.int .u8 41] 5)) ∧ Reads (wr.alloc (.cells #[.int .u8 41] 5)) (some ⟨wr.heap.size, 0, none⟩) 1 [41]) := ⟨AL.out.1.grown ga, readsOneB wr 41 5⟩
      have hz9 : zj.length + 1 ≤ 4194304 := by omega
      clear ga AL HR IH
      go_wp2_with (at_builtin; go_must (refine wpList_appG rfl _ _ 22 rfl W0.heap.size i0 (.int .u8 0) Tryd.underlying22 hi hz0 hz1 hz2 rfl u0 zj rfl AN.out.1.own (some ⟨wr.heap.size, 0, none⟩) 1 1 [41] rfl AN.out.2 hz9 AN.out.1.size ?_); intro v9 u9 s9)
      have FF : Hid (SayG W0.heap.size w v v9 ZZ u9) := (H0.out.trans (AN.out.1.trans s9)).as ER.out.symm
      clear AN s9 H0
      go_ret
      exact ⟨v9, rfl, FF.out.as EZ.out⟩

theorem l14showT (W0 : World) (cells : V) (ca : Option Addr) (cl cc : Nat) (hC : ShB W0 cells ca cl) : ∀ d, d ≤ 8 → ShC W0 cells ca cl cc d := by
  intro d
  induction d with
  | zero => intro h; exact sh_of W0 cells ca cl cc hC 0 h (fun d' e => absurd e (by omega))
  | succ d ih => intro h; exact sh_of W0 cells ca cl cc hC (d + 1) h (fun d' e => (show d = d' by omega) ▸ ih (by omega))
end Go.Proofs.YtpmndefmibnaeaaDoor.By
