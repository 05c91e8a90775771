/-
  One more bind behind a list of our own: what stands of the list as it was. No statement is proved here.
-/
import Derived.Test.YtmlganaiajhjeaaUPb
namespace Go.Proofs.Ytmlganaiajhjeaa.By
open Go.RowKit
set_option linter.unusedVariables false
set_option linter.unusedSimpArgs false

theorem Blk4.same {w u : World} {t : TypeId} {g c : Nat} (h : Blk4 w t g c) (e : u.heap[g]? = w.heap[g]?) : Blk4 u t g c := by
  obtain ⟨cur, h1, h2⟩ := h; exact ⟨cur, e.trans h1, h2⟩
theorem Blk4.at_lt {w : World} {t : TypeId} {g c : Nat} (h : Blk4 w t g c) : g < w.heap.size := by
  obtain ⟨cur, h1, _⟩ := h; exact lt_of_block h1
/-- Nothing of what was there is turned but the row's room behind its first l binds. -/
structure SpF (e : TypeId) (w u : World) (a : Option Addr) (l : Nat) : Prop where
  base : Tn w u (match a with | some x => [x.block] | none => [])
  row : ∀ g, a = some ⟨g, 0, none⟩ → ∀ c, Blk4 w e g c → Blk4 u e g c ∧ ∀ j, j < l * 4 → u.cell? ⟨g, j, none⟩ = w.cell? ⟨g, j, none⟩
theorem SpF.ofTn {e : TypeId} {w u : World} {a : Option Addr} {l : Nat} (h : Tn w u []) : SpF e w u a l :=
  ⟨h.mono (fun x hx => by simp at hx), fun g _ c hb => have q := h.block g hb.at_lt (by simp); ⟨hb.same q, fun j _ => cell_of_heap q⟩⟩
theorem SpF.grown {e : TypeId} {w u : World} {a : Option Addr} {l : Nat} (h : w.grownBy u none) : SpF e w u a l := SpF.ofTn (Tn.grown h [])
theorem SpF.room {e : TypeId} {w u : World} {g c l : Nat} (h : w.grownBy u (some g)) (hB : Blk4 w e g c) (hB' : Blk4 u e g c) (hc : ∀ j, j < l * 4 → u.cell? ⟨g, j, none⟩ = w.cell? ⟨g, j, none⟩) : SpF e w u (some ⟨g, 0, none⟩) l :=
  ⟨Tn.row h, fun g' eg c' hb => by
    injection eg with eg
    injection eg with eg
    subst eg
    refine ⟨?_, hc⟩
    obtain ⟨cur, h1, h2⟩ := hB
    obtain ⟨cur', h1', h2'⟩ := hb
    rw [h1] at h1'
    injection h1' with h1'
    injection h1' with h1'
    subst h1'
    obtain rfl : c = c' := by omega
    exact hB'⟩
theorem SpF.next {e : TypeId} {w u v : World} {a a' : Option Addr} {l l' : Nat} (h : SpF e w u a l) (k : SpF e u v a' l') (hr : (a' = a ∧ l ≤ l') ∨ (∀ x, a' = some x → w.heap.size ≤ x.block)) : SpF e w v a l := by
  rcases hr with ⟨rfl, hl⟩ | hr
  · refine ⟨h.base.trans k.base, fun g hg c hb => ?_⟩
    obtain ⟨b1, c1⟩ := h.row g hg c hb
    obtain ⟨b2, c2⟩ := k.row g hg c b1
    exact ⟨b2, fun j hj => (c2 j (by omega)).trans (c1 j hj)⟩
  · have q : ∀ i, i < w.heap.size → v.heap[i]? = u.heap[i]? := fun i hi => k.base.block i (Nat.lt_of_lt_of_le hi h.base.size) (fun hx => by
      cases a' with
      | none => simp at hx
      | some x => have := hr x rfl; simp at hx; omega)
    refine ⟨⟨k.base.os.trans h.base.os, k.base.tape.trans h.base.tape, k.base.output.trans h.base.output, Nat.le_trans h.base.size k.base.size, fun i hi hn => (q i hi).trans (h.base.block i hi hn)⟩, fun g hg c hb => ?_⟩
    obtain ⟨b1, c1⟩ := h.row g hg c hb
    have := q g hb.at_lt
    exact ⟨b1.same this, fun j hj => (cell_of_heap this).trans (c1 j hj)⟩
/-- The list is as it was. -/
theorem SpF.keeps {e tt : TypeId} {w u : World} {a : Option Addr} {l c : Nat} {f : B} {bs : List Nat} (h : SpF e w u a l) (hs : SlOB w tt e a l c f bs) (hnd : bs.Nodup) : SlOB u tt e a l c f bs := by
  have hlt := hs.lt
  obtain ⟨h1, h2, h3, h4⟩ := hs
  refine ⟨h1, h2, h3, ?_⟩
  rcases h4 with h4 | ⟨g, bs', hp, rfl, rfl, hb, ho⟩
  · exact .inl h4
  · obtain ⟨b1, c1⟩ := h.row g rfl c hb
    obtain ⟨hng, hnb⟩ := List.nodup_cons.1 hnd
    refine .inr ⟨g, bs', hp, rfl, rfl, b1, ho.move (fun j hj => ?_) (fun x hx => h.base.block x (hlt x (List.mem_cons_of_mem _ hx)) (fun he => by simp at he; exact hng (he ▸ hx)))⟩
    have := c1 j (by omega)
    simpa using this
/-- Only the list's own blocks may have been turned. -/
theorem SpF.tn {e tt : TypeId} {w u : World} {a : Option Addr} {l c : Nat} {f : B} {bs : List Nat} (h : SpF e w u a l) (hs : SlOB w tt e a l c f bs) (ha : c = 0 → a = none) : Tn w u bs := by
  refine h.base.mono (fun x hx => ?_)
  obtain ⟨h1, h2, h3, h4⟩ := hs
  rcases h4 with ⟨h4, _⟩ | ⟨g, bs', hp, rfl, rfl, hb, ho⟩
  · rw [ha h4] at hx; simp at hx
  · simp at hx; subst hx; simp

theorem run_pushC {P : Program} {w : World} (t ty e tt : TypeId) (i : TypeInfo) (z : Value) (ht : P.underlying t = some (.slice e)) (hi : P.info? e = some i) (hz : i.zero = some z) (hsize : i.size = 4) (hby : i.bytes = 48) (hzs : z.cells.size = 4)
    (a : Option Addr) (l c : Nat) (f : B) (bs : List Nat) (h : SlOB w tt e a l c f bs) (hnd : bs.Nodup) (ha : c = 0 → a = none) (hl : l ≤ 200000) (ad : Addr) (v k n : Int) (a' : Option Addr) (l' c' : Nat) (hnews : ∀ j u, [Value.int .i64 v, Value.int .i64 k, Value.int .i64 n, Value.slice a' l' c'][j]? = some u → w.cell? (ad.add j) = some u)
    (d : F) (bd : List Nat) (hd : SlO w tt a' l' c' d bd) (hndd : bd.Nodup) (hdis : ∀ x ∈ bs, x ∉ bd) :
    ∃ a2 c2 bs2 w', (Builtin.append_ #[t, t] ty #[.slice a l c, .slice (some ad) 1 1]).run P w = .ok (.slice a2 (l + 1) c2) w' ∧ SlOB w' tt e a2 (l + 1) c2 (f.app (.cons v k n d .nil)) bs2 ∧ bs2.Nodup ∧ (∀ x ∈ bs2, x ∈ bs ∨ x ∈ bd ∨ w.heap.size ≤ x) ∧ Tn w w' bs ∧ 0 < c2 ∧ SpF e w w' a l ∧ (a2 = a ∨ ∀ x, a2 = some x → w.heap.size ≤ x.block) := by
  have hlt := h.lt
  have hltd := hd.lt
  obtain ⟨hfl, hlm, hlc, hx⟩ := h
  have src : Src P i.size t (.slice (some ad) 1 1) 1 [Value.int .i64 v, Value.int .i64 k, Value.int .i64 n, Value.slice a' l' c'] w := Src.ofSlice w ht ad 1 1 _ (by simp [hsize]) hnews (one4 _ _ _ _ _ _)
  have hlen1 : (f.app (.cons v k n d .nil)).len = l + 1 := by rw [B.app_len, hfl]; rfl
  have hgrow : ∀ (olds : List Value) (bs' : List Nat) (hold : (Builtin.firstCells i.size l (.slice a l c)).run P w.drew = .ok olds.toArray w.drew) (hol : olds.length = l * 4) (hd' : c < l + 1) (hbs : ∀ x ∈ bs', x ∈ bs) (hnb : bs'.Nodup) (hcp : ∀ (u : World) (g : Nat), (∀ j, j < l * 4 → u.cell? ⟨g, j, none⟩ = olds[j]?) → (∀ x ∈ bs', u.heap[x]? = w.heap[x]?) → OwnB u tt f g 0 bs'),
      ∃ a2 c2 bs2 w', (Builtin.append_ #[t, t] ty #[.slice a l c, .slice (some ad) 1 1]).run P w = .ok (.slice a2 (l + 1) c2) w' ∧ SlOB w' tt e a2 (l + 1) c2 (f.app (.cons v k n d .nil)) bs2 ∧ bs2.Nodup ∧ (∀ x ∈ bs2, x ∈ bs ∨ x ∈ bd ∨ w.heap.size ≤ x) ∧ Tn w w' bs ∧ 0 < c2 ∧ SpF e w w' a l ∧ (a2 = a ∨ ∀ x, a2 = some x → w.heap.size ≤ x.block) := by
    intro olds bs' hold hol hd' hbs hnb hcp
    have r := run_append_grow_src (P := P) w t t ty e i z ht hi hz a l c olds hold (.slice (some ad) 1 1) 1 _ src hd' (by omega) (growslice_fits hd' (by rw [hby]; omega))
    have hge := grownCap_ge w (l + 1) c e
    have hnew := heap_alloc_new w.drew (.cells ((olds ++ [Value.int .i64 v, Value.int .i64 k, Value.int .i64 n, Value.slice a' l' c']).toArray ++ Builtin.zeroCells z.cells (grownCap w (l + 1) c e - (l + 1))) e)
    have htn : Tn w (w.drew.alloc (.cells ((olds ++ [Value.int .i64 v, Value.int .i64 k, Value.int .i64 n, Value.slice a' l' c']).toArray ++ Builtin.zeroCells z.cells (grownCap w (l + 1) c e - (l + 1))) e)) [] := ⟨rfl, rfl, rfl, by simp, fun x hx _ => heap_alloc_old w.drew _ hx⟩
    have hnew : (w.drew.alloc (.cells ((olds ++ [Value.int .i64 v, Value.int .i64 k, Value.int .i64 n, Value.slice a' l' c']).toArray ++ Builtin.zeroCells z.cells (grownCap w (l + 1) c e - (l + 1))) e)).heap[w.heap.size]? = _ := hnew
    generalize (w.drew.alloc (.cells ((olds ++ [Value.int .i64 v, Value.int .i64 k, Value.int .i64 n, Value.slice a' l' c']).toArray ++ Builtin.zeroCells z.cells (grownCap w (l + 1) c e - (l + 1))) e)) = u at r hnew htn
    have hsz : ((olds ++ [Value.int .i64 v, Value.int .i64 k, Value.int .i64 n, Value.slice a' l' c']).toArray ++ Builtin.zeroCells z.cells (grownCap w (l + 1) c e - (l + 1))).size = grownCap w (l + 1) c e * 4 := by
      simp only [Array.size_append, List.size_toArray, size_zeroCells, hzs, List.length_append, hol, List.length_cons, List.length_nil]
      omega
    have hcell : ∀ j, j < l * 4 + 4 → u.cell? ⟨w.heap.size, j, none⟩ = (olds ++ [Value.int .i64 v, Value.int .i64 k, Value.int .i64 n, Value.slice a' l' c'])[j]? := by
      intro j hj
      rw [cell_of_row u w.heap.size j _ e (0, 0) hnew, Array.getElem?_append_left (by simp [hol]; omega), List.getElem?_toArray]
    have hold' : ∀ x, x < w.heap.size → u.heap[x]? = w.heap[x]? := fun x hx => htn.block x hx (by simp)
    have hO := hcp u w.heap.size (fun j hj => by rw [hcell j (by omega), List.getElem?_append_left (by omega)]) (fun x hx => hold' x (hlt x (hbs x hx)))
    have hD := hd.of (w' := u) (fun x hx => hold' x (hltd x hx))
    have q0 : Qua w.heap.size (0 + f.len * 4) (.int .i64 v) (.int .i64 k) (.int .i64 n) (.slice a' l' c') u := by
      refine ⟨?_, ?_, ?_, ?_⟩
      · rw [hfl, Nat.zero_add, hcell _ (by omega), List.getElem?_append_right (by omega), hol]; simp
      · rw [hfl, Nat.zero_add, hcell _ (by omega), List.getElem?_append_right (by omega), hol]; simp
      · rw [hfl, Nat.zero_add, hcell _ (by omega), List.getElem?_append_right (by omega), hol]; simp
      · rw [hfl, Nat.zero_add, hcell _ (by omega), List.getElem?_append_right (by omega), hol]; simp
    have hA := hO.app (OwnB.one q0 hD)
    refine ⟨_, _, w.heap.size :: (bs' ++ bd), u, r, ⟨hlen1, by omega, hge, .inr ⟨_, _, by omega, rfl, rfl, ⟨_, hnew, hsz⟩, hA⟩⟩, List.nodup_cons.2 ⟨fun hx => ?_, List.nodup_append.2 ⟨hnb, hndd, fun x hx y hy e => ?_⟩⟩, fun x hx => ?_, htn.mono (fun x hx => by simp at hx), by omega, SpF.ofTn htn, .inr (fun x hx => by injection hx with hx; subst hx; exact Nat.le_refl _)⟩
    · rcases List.mem_append.1 hx with hx | hx
      · have := hlt _ (hbs _ hx); omega
      · have := hltd _ hx; omega
    · subst e; exact hdis x (hbs x hx) hy
    · rcases List.mem_cons.1 hx with rfl | hx
      · exact .inr (.inr (Nat.le_refl _))
      · rcases List.mem_append.1 hx with hx | hx
        · exact .inl (hbs x hx)
        · exact .inr (.inl hx)
  rcases hx with ⟨hc0, hb0⟩ | ⟨g, bs', hp0, rfl, rfl, ⟨cur, hg, hsz⟩, hown⟩
  · obtain rfl := ha hc0
    obtain rfl : l = 0 := by omega
    obtain rfl := B.nil_of_len hfl
    subst hc0 hb0
    exact hgrow [] [] (run_firstCells_none w.drew i.size 0 0 0) rfl (by omega) (fun x hx => hx) List.nodup_nil (fun u g _ _ => rfl)
  · obtain ⟨hng, hnb⟩ := List.nodup_cons.1 hnd
    by_cases hroom : l + 1 ≤ c
    · have hB : Blk4 w e g c := ⟨cur, hg, hsz⟩
      obtain ⟨hB3, hk3, tq, hoth⟩ := hB.put4 (l * 4) (by omega) (.int .i64 v) (.int .i64 k) (.int .i64 n) (.slice a' l' c')
      have r := run_append_room_src (P := P) w t t ty e i ht hi g 0 l c (.slice (some ad) 1 1) 1 _ src hroom (by rw [hsize]; intro j hj; obtain ⟨v, hv⟩ := hB.has (l * 4 + j) (by simp at hj; omega); rw [Nat.zero_add, hv]; rfl) (by rw [hsize]; intro j hj; exact hB.free _)
      rw [hsize, Nat.zero_add] at r
      have r' : (Builtin.append_ #[t, t] ty #[.slice (some ⟨g, 0, none⟩) l c, .slice (some ad) 1 1]).run P w = .ok (.slice (some ⟨g, 0, none⟩) (l + 1) c) ((((w.setCell ⟨g, l * 4, none⟩ (.int .i64 v)).setCell ⟨g, l * 4 + 1, none⟩ (.int .i64 k)).setCell ⟨g, l * 4 + 2, none⟩ (.int .i64 n)).setCell ⟨g, l * 4 + 3, none⟩ (.slice a' l' c')) := r
      generalize (((w.setCell ⟨g, l * 4, none⟩ (.int .i64 v)).setCell ⟨g, l * 4 + 1, none⟩ (.int .i64 k)).setCell ⟨g, l * 4 + 2, none⟩ (.int .i64 n)).setCell ⟨g, l * 4 + 3, none⟩ (.slice a' l' c') = u at r' hB3 hk3 tq hoth
      have hne : ∀ x, x ≠ g → some x ≠ some g := fun x hx e => hx (by injection e)
      have hO := hown.move (w' := u) (b' := g) (off' := 0) (fun j hj => hoth _ (.inl (by omega))) (fun x hx => hk3.block x (hlt x (List.mem_cons_of_mem _ hx)) (hne x (fun e => hng (e ▸ hx))))
      have hD := hd.kept hk3 (fun x hx => hne x (fun e => hdis g (by simp) (e ▸ hx)))
      have hA := hO.app (OwnB.one (b := g) (off := 0 + f.len * 4) (by rw [hfl, Nat.zero_add]; exact tq) hD)
      refine ⟨_, _, g :: (bs' ++ bd), u, r', ⟨hlen1, by omega, hroom, .inr ⟨_, _, by omega, rfl, rfl, hB3, hA⟩⟩, List.nodup_cons.2 ⟨fun hx => ?_, List.nodup_append.2 ⟨hnb, hndd, fun x hx y hy e => ?_⟩⟩, fun x hx => ?_, (Tn.row hk3).mono (fun x hx => by simp at hx; subst hx; simp), by omega, SpF.room hk3 hB hB3 (fun j hj => hoth j (.inl hj)), .inl rfl⟩
      · rcases List.mem_append.1 hx with hx | hx
        · exact hng hx
        · exact hdis g (by simp) hx
      · subst e; exact hdis x (List.mem_cons_of_mem _ hx) hy
      · rcases List.mem_cons.1 hx with rfl | hx
        · exact .inl (by simp)
        · rcases List.mem_append.1 hx with hx | hx
          · exact .inl (List.mem_cons_of_mem _ hx)
          · exact .inr (.inl hx)
    · have hct := cells_take4 hg hsz hlc
      refine hgrow (cur.toList.take (l * 4)) bs' ?_ (by simp; omega) (by omega) (fun x hx => List.mem_cons_of_mem _ hx) hnb (fun u g' hc hb => hown.move (fun j hj => ?_) hb)
      · refine run_firstCells_some w.drew i.size l ⟨g, 0, none⟩ l c _ (by simp [hsize]; omega) (fun j u hu => ?_)
        have hj : j < l * 4 := by have := (List.getElem?_eq_some_iff.1 hu).1; simp at this; omega
        rw [Go.WideShapes.add_plain, Nat.zero_add]
        exact (hct j hj).trans hu
      · rw [Nat.zero_add, hc j (by omega), hct j (by omega)]

theorem step_pushC {P : Program} {ops : Array Oper} {o : Oper} {ac : Act} {w : World} {K : Act → World → Prop} {Q : Exit → Act → World → Prop} {E : Prop}
    (hg : o.guard = none) (s x : Operand) (t : TypeId) (ho : o.op = .call { callee := .builtin .append, args := #[s, x], argTypes := #[t, t] })
    (e tt : TypeId) (i : TypeInfo) (z : Value) (ht : P.underlying t = some (.slice e)) (hi : P.info? e = some i) (hz : i.zero = some z) (hsize : i.size = 4) (hby : i.bytes = 48) (hzs : z.cells.size = 4)
    (a : Option Addr) (l c : Nat) (f : B) (bs : List Nat) (hs : ac.eval s = .slice a l c) (h : SlOB w tt e a l c f bs) (hnd : bs.Nodup) (ha : c = 0 → a = none) (hl : l ≤ 200000) (ad : Addr) (hx : ac.eval x = .slice (some ad) 1 1) (v k n : Int) (a' : Option Addr) (l' c' : Nat) (hnews : ∀ j u, [Value.int .i64 v, Value.int .i64 k, Value.int .i64 n, Value.slice a' l' c'][j]? = some u → w.cell? (ad.add j) = some u)
    (d : F) (bd : List Nat) (hd : SlO w tt a' l' c' d bd) (hndd : bd.Nodup) (hdis : ∀ x ∈ bs, x ∉ bd)
    (H : ∀ a2 c2 bs2 w', SlOB w' tt e a2 (l + 1) c2 (f.app (.cons v k n d .nil)) bs2 → bs2.Nodup → (∀ x ∈ bs2, x ∈ bs ∨ x ∈ bd ∨ w.heap.size ≤ x) → Tn w w' bs → 0 < c2 → SpF e w w' a l → (a2 = a ∨ ∀ x, a2 = some x → w.heap.size ≤ x.block) → K (ac.put o.dst (.slice a2 (l + 1) c2)) w') :
    if Region.wanted o (yielded ops ac.tmps) = true then Oper.wp P o ac w K Q else E := by
  have hw : Region.wanted o (yielded ops ac.tmps) = true := by simp [Region.wanted, hg]
  rw [if_pos hw]
  obtain ⟨a2, c2, bs2, w', hrun, h1, h2, h3, h4, h5, h6, h7⟩ := run_pushC (P := P) (w := w) t o.type e tt i z ht hi hz hsize hby hzs a l c f bs h hnd ha hl ad v k n a' l' c' hnews d bd hd hndd hdis
  unfold Oper.wp execOp
  simp only [ho, resolve, invoke, builtin, Sem.run_bind, Sem.run_pure, Result.andThen_ok, List.map_toArray, List.map_cons, List.map_nil, hs, hx, hrun]
  exact H a2 c2 bs2 w' h1 h2 h3 h4 h5 h6 h7

end Go.Proofs.Ytmlganaiajhjeaa.By
