/-
  One tree more at the end of a list of our own. No statement is proved here.
-/
import Derived.Test.YtpdkgmagjhibkaaGreatDoorTEqAlso
import Derived.Test.YtpdkgmagjhibkaaGreatDoorSBaAlso
import Derived.Deep.AppendSrc
namespace Go.Proofs.YtpdkgmagjhibkaaGreatDoor.By
open Go.RowKit
set_option linter.unusedVariables false
set_option linter.unusedSimpArgs false

theorem one3 (k n : Int) (a : Option Addr) (l c : Nat) : ∀ v ∈ [Value.int .i64 k, Value.int .i64 n, Value.slice a l c], v.oneCell' = true := by
  intro v hv
  simp only [List.mem_cons, List.not_mem_nil, or_false] at hv
  rcases hv with rfl | rfl | rfl <;> rfl
/-- The cells of a list that lies at the head of a block. -/
theorem cells_take {w : World} {g c l : Nat} {t : TypeId} {cur : Array Value} (hc : w.heap[g]? = some (.cells cur t (0, 0))) (hs : cur.size = c * 3) (hl : l ≤ c) : ∀ j, j < l * 3 → w.cell? ⟨g, j, none⟩ = (cur.toList.take (l * 3))[j]? := by
  intro j hj
  rw [cell_of_row w g j cur t (0, 0) hc, List.getElem?_take_of_lt hj, Array.getElem?_toList]

theorem run_pushT {P : Program} {w : World} (t ty e : TypeId) (i : TypeInfo) (z : Value) (ht : P.underlying t = some (.slice e)) (hi : P.info? e = some i) (hz : i.zero = some z) (hsize : i.size = 3) (hby : i.bytes = 40) (hzs : z.cells.size = 3)
    (a : Option Addr) (l c : Nat) (f : F) (bs : List Nat) (h : SlO w e a l c f bs) (hnd : bs.Nodup) (ha : c = 0 → a = none) (hl : l ≤ 100000) (ad : Addr) (k n : Int) (a' : Option Addr) (l' c' : Nat) (hnews : ∀ j u, [Value.int .i64 k, Value.int .i64 n, Value.slice a' l' c'][j]? = some u → w.cell? (ad.add j) = some u)
    (d : F) (bd : List Nat) (hd : SlO w e a' l' c' d bd) (hndd : bd.Nodup) (hdis : ∀ x ∈ bs, x ∉ bd) :
    ∃ a2 c2 bs2 w', (Builtin.append_ #[t, t] ty #[.slice a l c, .slice (some ad) 1 1]).run P w = .ok (.slice a2 (l + 1) c2) w' ∧ SlO w' e a2 (l + 1) c2 (f.app (.cons k n d .nil)) bs2 ∧ bs2.Nodup ∧ (∀ x ∈ bs2, x ∈ bs ∨ x ∈ bd ∨ w.heap.size ≤ x) ∧ Tn w w' bs ∧ 0 < c2 := by
  have hlt := h.lt
  have hltd := hd.lt
  obtain ⟨hfl, hlm, hlc, hx⟩ := h
  have src : Src P i.size t (.slice (some ad) 1 1) 1 [Value.int .i64 k, Value.int .i64 n, Value.slice a' l' c'] w := Src.ofSlice w ht ad 1 1 _ (by simp [hsize]) hnews (one3 _ _ _ _ _)
  have hlen1 : (f.app (.cons k n d .nil)).len = l + 1 := by rw [F.app_len, hfl]; rfl
  have hgrow : ∀ (olds : List Value) (bs' : List Nat) (hold : (Builtin.firstCells i.size l (.slice a l c)).run P w.drew = .ok olds.toArray w.drew) (hol : olds.length = l * 3) (hd' : c < l + 1) (hbs : ∀ x ∈ bs', x ∈ bs) (hnb : bs'.Nodup) (hcp : ∀ (u : World) (g : Nat), (∀ j, j < l * 3 → u.cell? ⟨g, j, none⟩ = olds[j]?) → (∀ x ∈ bs', u.heap[x]? = w.heap[x]?) → OwnF u e f g 0 bs'),
      ∃ a2 c2 bs2 w', (Builtin.append_ #[t, t] ty #[.slice a l c, .slice (some ad) 1 1]).run P w = .ok (.slice a2 (l + 1) c2) w' ∧ SlO w' e a2 (l + 1) c2 (f.app (.cons k n d .nil)) bs2 ∧ bs2.Nodup ∧ (∀ x ∈ bs2, x ∈ bs ∨ x ∈ bd ∨ w.heap.size ≤ x) ∧ Tn w w' bs ∧ 0 < c2 := by
    intro olds bs' hold hol hd' hbs hnb hcp
    have r := run_append_grow_src (P := P) w t t ty e i z ht hi hz a l c olds hold (.slice (some ad) 1 1) 1 _ src hd' (by omega) (growslice_fits hd' (by rw [hby]; omega))
    have hge := grownCap_ge w (l + 1) c e
    have hnew := heap_alloc_new w.drew (.cells ((olds ++ [Value.int .i64 k, Value.int .i64 n, Value.slice a' l' c']).toArray ++ Builtin.zeroCells z.cells (grownCap w (l + 1) c e - (l + 1))) e)
    have htn : Tn w (w.drew.alloc (.cells ((olds ++ [Value.int .i64 k, Value.int .i64 n, Value.slice a' l' c']).toArray ++ Builtin.zeroCells z.cells (grownCap w (l + 1) c e - (l + 1))) e)) [] := ⟨rfl, rfl, rfl, by simp, fun x hx _ => heap_alloc_old w.drew _ hx⟩
    have hnew : (w.drew.alloc (.cells ((olds ++ [Value.int .i64 k, Value.int .i64 n, Value.slice a' l' c']).toArray ++ Builtin.zeroCells z.cells (grownCap w (l + 1) c e - (l + 1))) e)).heap[w.heap.size]? = _ := hnew
    generalize (w.drew.alloc (.cells ((olds ++ [Value.int .i64 k, Value.int .i64 n, Value.slice a' l' c']).toArray ++ Builtin.zeroCells z.cells (grownCap w (l + 1) c e - (l + 1))) e)) = u at r hnew htn
    have hsz : ((olds ++ [Value.int .i64 k, Value.int .i64 n, Value.slice a' l' c']).toArray ++ Builtin.zeroCells z.cells (grownCap w (l + 1) c e - (l + 1))).size = grownCap w (l + 1) c e * 3 := by
      simp only [Array.size_append, List.size_toArray, size_zeroCells, hzs, List.length_append, hol, List.length_cons, List.length_nil]
      omega
    have hcell : ∀ j, j < l * 3 + 3 → u.cell? ⟨w.heap.size, j, none⟩ = (olds ++ [Value.int .i64 k, Value.int .i64 n, Value.slice a' l' c'])[j]? := by
      intro j hj
      rw [cell_of_row u w.heap.size j _ e (0, 0) hnew, Array.getElem?_append_left (by simp [hol]; omega), List.getElem?_toArray]
    have hold' : ∀ x, x < w.heap.size → u.heap[x]? = w.heap[x]? := fun x hx => htn.block x hx (by simp)
    have hO := hcp u w.heap.size (fun j hj => by rw [hcell j (by omega), List.getElem?_append_left (by omega)]) (fun x hx => hold' x (hlt x (hbs x hx)))
    have hD := hd.of (w' := u) (fun x hx => hold' x (hltd x hx))
    have q0 : u.cell? ⟨w.heap.size, 0 + f.len * 3, none⟩ = some (.int .i64 k) := by rw [hfl, Nat.zero_add, hcell _ (by omega), List.getElem?_append_right (by omega), hol]; simp
    have q1 : u.cell? ⟨w.heap.size, 0 + f.len * 3 + 1, none⟩ = some (.int .i64 n) := by rw [hfl, Nat.zero_add, hcell _ (by omega), List.getElem?_append_right (by omega), hol]; simp
    have q2 : u.cell? ⟨w.heap.size, 0 + f.len * 3 + 2, none⟩ = some (.slice a' l' c') := by rw [hfl, Nat.zero_add, hcell _ (by omega), List.getElem?_append_right (by omega), hol]; simp
    have hA := hO.app (OwnF.one q0 q1 q2 hD)
    refine ⟨_, _, w.heap.size :: (bs' ++ bd), u, r, ⟨hlen1, by omega, hge, .inr ⟨_, _, by omega, rfl, rfl, ⟨_, hnew, hsz⟩, hA⟩⟩, List.nodup_cons.2 ⟨fun hx => ?_, List.nodup_append.2 ⟨hnb, hndd, fun x hx y hy e => ?_⟩⟩, fun x hx => ?_, htn.mono (fun x hx => by simp at hx), by omega⟩
    · rcases List.mem_append.1 hx with hx | hx
      · have := hlt _ (hbs _ hx); omega
      · have := hltd _ hx; omega
    · subst e; exact hdis x (hbs x hx) hy
    · rcases List.mem_cons.1 hx with rfl | hx
      · exact .inr (.inr (Nat.le_refl _))
      · rcases List.mem_append.1 hx with hx | hx
        · exact .inl (hbs x hx)
        · exact .inr (.inl hx)
  rcases hx with ⟨hc0, hb0⟩ | ⟨g, bs', hp0, rfl, rfl, ⟨cur, hg, hsz⟩, hown⟩
  · obtain rfl := ha hc0
    obtain rfl : l = 0 := by omega
    obtain rfl := F.nil_of_len hfl
    subst hc0 hb0
    exact hgrow [] [] (run_firstCells_none w.drew i.size 0 0 0) rfl (by omega) (fun x hx => hx) List.nodup_nil (fun u g _ _ => rfl)
  · obtain ⟨hng, hnb⟩ := List.nodup_cons.1 hnd
    by_cases hroom : l + 1 ≤ c
    · have hB : Blk w e g c := ⟨cur, hg, hsz⟩
      obtain ⟨hB3, hk3, ⟨t0, t1, t2⟩, hoth⟩ := hB.put3 (l * 3) (by omega) (.int .i64 k) (.int .i64 n) (.slice a' l' c')
      have r := run_append_room_src (P := P) w t t ty e i ht hi g 0 l c (.slice (some ad) 1 1) 1 _ src hroom (by rw [hsize]; intro j hj; obtain ⟨v, hv⟩ := hB.has (l * 3 + j) (by simp at hj; omega); rw [Nat.zero_add, hv]; rfl) (by rw [hsize]; intro j hj; exact hB.free _)
      rw [hsize, Nat.zero_add] at r
      have r' : (Builtin.append_ #[t, t] ty #[.slice (some ⟨g, 0, none⟩) l c, .slice (some ad) 1 1]).run P w = .ok (.slice (some ⟨g, 0, none⟩) (l + 1) c) (((w.setCell ⟨g, l * 3, none⟩ (.int .i64 k)).setCell ⟨g, l * 3 + 1, none⟩ (.int .i64 n)).setCell ⟨g, l * 3 + 2, none⟩ (.slice a' l' c')) := r
      generalize ((w.setCell ⟨g, l * 3, none⟩ (.int .i64 k)).setCell ⟨g, l * 3 + 1, none⟩ (.int .i64 n)).setCell ⟨g, l * 3 + 2, none⟩ (.slice a' l' c') = u at r' hB3 hk3 t0 t1 t2 hoth
      have hne : ∀ x, x ≠ g → some x ≠ some g := fun x hx e => hx (by injection e)
      have hO := hown.move (w' := u) (b' := g) (off' := 0) (fun j hj => hoth _ (.inl (by omega))) (fun x hx => hk3.block x (hlt x (List.mem_cons_of_mem _ hx)) (hne x (fun e => hng (e ▸ hx))))
      have hD := hd.kept hk3 (fun x hx => hne x (fun e => hdis g (by simp) (e ▸ hx)))
      have hA := hO.app (OwnF.one (b := g) (off := 0 + f.len * 3) (by rw [hfl, Nat.zero_add]; exact t0) (by rw [hfl, Nat.zero_add]; exact t1) (by rw [hfl, Nat.zero_add]; exact t2) hD)
      refine ⟨_, _, g :: (bs' ++ bd), u, r', ⟨hlen1, by omega, hroom, .inr ⟨_, _, by omega, rfl, rfl, hB3, hA⟩⟩, List.nodup_cons.2 ⟨fun hx => ?_, List.nodup_append.2 ⟨hnb, hndd, fun x hx y hy e => ?_⟩⟩, fun x hx => ?_, (Tn.row hk3).mono (fun x hx => by simp at hx; subst hx; simp), by omega⟩
      · rcases List.mem_append.1 hx with hx | hx
        · exact hng hx
        · exact hdis g (by simp) hx
      · subst e; exact hdis x (List.mem_cons_of_mem _ hx) hy
      · rcases List.mem_cons.1 hx with rfl | hx
        · exact .inl (by simp)
        · rcases List.mem_append.1 hx with hx | hx
          · exact .inl (List.mem_cons_of_mem _ hx)
          · exact .inr (.inl hx)
    · have hct := cells_take hg hsz hlc
      refine hgrow (cur.toList.take (l * 3)) bs' ?_ (by simp; omega) (by omega) (fun x hx => List.mem_cons_of_mem _ hx) hnb (fun u g' hc hb => hown.move (fun j hj => ?_) hb)
      · refine run_firstCells_some w.drew i.size l ⟨g, 0, none⟩ l c _ (by simp [hsize]; omega) (fun j u hu => ?_)
        have hj : j < l * 3 := by have := (List.getElem?_eq_some_iff.1 hu).1; simp at this; omega
        rw [Go.WideShapes.add_plain, Nat.zero_add]
        exact (hct j hj).trans hu
      · rw [Nat.zero_add, hc j (by omega), hct j (by omega)]

theorem wp_pushT {P : Program} {o : Oper} {ac : Act} {w : World} {K : Act → World → Prop} {Q : Exit → Act → World → Prop}
    (s x : Operand) (t : TypeId) (ho : o.op = .call { callee := .builtin .append, args := #[s, x], argTypes := #[t, t] })
    (e : TypeId) (i : TypeInfo) (z : Value) (ht : P.underlying t = some (.slice e)) (hi : P.info? e = some i) (hz : i.zero = some z) (hsize : i.size = 3) (hby : i.bytes = 40) (hzs : z.cells.size = 3)
    (a : Option Addr) (l c : Nat) (f : F) (bs : List Nat) (hs : ac.eval s = .slice a l c) (h : SlO w e a l c f bs) (hnd : bs.Nodup) (ha : c = 0 → a = none) (hl : l ≤ 100000) (ad : Addr) (hx : ac.eval x = .slice (some ad) 1 1) (k n : Int) (a' : Option Addr) (l' c' : Nat) (hnews : ∀ j u, [Value.int .i64 k, Value.int .i64 n, Value.slice a' l' c'][j]? = some u → w.cell? (ad.add j) = some u)
    (d : F) (bd : List Nat) (hd : SlO w e a' l' c' d bd) (hndd : bd.Nodup) (hdis : ∀ x ∈ bs, x ∉ bd)
    (H : ∀ a2 c2 bs2 w', SlO w' e a2 (l + 1) c2 (f.app (.cons k n d .nil)) bs2 → bs2.Nodup → (∀ x ∈ bs2, x ∈ bs ∨ x ∈ bd ∨ w.heap.size ≤ x) → Tn w w' bs → 0 < c2 → K (ac.put o.dst (.slice a2 (l + 1) c2)) w') :
    Oper.wp P o ac w K Q := by
  obtain ⟨a2, c2, bs2, w', hrun, h1, h2, h3, h4, h5⟩ := run_pushT (P := P) (w := w) t o.type e i z ht hi hz hsize hby hzs a l c f bs h hnd ha hl ad k n a' l' c' hnews d bd hd hndd hdis
  unfold Oper.wp execOp
  simp only [ho, resolve, invoke, builtin, Sem.run_bind, Sem.run_pure, Result.andThen_ok, List.map_toArray, List.map_cons, List.map_nil, hs, hx, hrun]
  exact H a2 c2 bs2 w' h1 h2 h3 h4 h5
theorem step_pushT {P : Program} {ops : Array Oper} {o : Oper} {ac : Act} {w : World} {K : Act → World → Prop} {Q : Exit → Act → World → Prop} {E : Prop}
    (hg : o.guard = none) (s x : Operand) (t : TypeId) (ho : o.op = .call { callee := .builtin .append, args := #[s, x], argTypes := #[t, t] })
    (e : TypeId) (i : TypeInfo) (z : Value) (ht : P.underlying t = some (.slice e)) (hi : P.info? e = some i) (hz : i.zero = some z) (hsize : i.size = 3) (hby : i.bytes = 40) (hzs : z.cells.size = 3)
    (a : Option Addr) (l c : Nat) (f : F) (bs : List Nat) (hs : ac.eval s = .slice a l c) (h : SlO w e a l c f bs) (hnd : bs.Nodup) (ha : c = 0 → a = none) (hl : l ≤ 100000) (ad : Addr) (hx : ac.eval x = .slice (some ad) 1 1) (k n : Int) (a' : Option Addr) (l' c' : Nat) (hnews : ∀ j u, [Value.int .i64 k, Value.int .i64 n, Value.slice a' l' c'][j]? = some u → w.cell? (ad.add j) = some u)
    (d : F) (bd : List Nat) (hd : SlO w e a' l' c' d bd) (hndd : bd.Nodup) (hdis : ∀ x ∈ bs, x ∉ bd)
    (H : ∀ a2 c2 bs2 w', SlO w' e a2 (l + 1) c2 (f.app (.cons k n d .nil)) bs2 → bs2.Nodup → (∀ x ∈ bs2, x ∈ bs ∨ x ∈ bd ∨ w.heap.size ≤ x) → Tn w w' bs → 0 < c2 → K (ac.put o.dst (.slice a2 (l + 1) c2)) w') :
    if Region.wanted o (yielded ops ac.tmps) = true then Oper.wp P o ac w K Q else E := by
  have hw : Region.wanted o (yielded ops ac.tmps) = true := by simp [Region.wanted, hg]
  rw [if_pos hw]
  exact wp_pushT s x t ho e i z ht hi hz hsize hby hzs a l c f bs hs h hnd ha hl ad hx k n a' l' c' hnews d bd hd hndd hdis H
theorem wpList_pushT {P : Program} {w : World} {ops : Array Oper} {rest : List Oper} {o : Oper} {ac : Act} {Q : Exit → Act → World → Prop}
    (hg : o.guard = none) (s x : Operand) (t : TypeId) (ho : o.op = .call { callee := .builtin .append, args := #[s, x], argTypes := #[t, t] })
    (e : TypeId) (i : TypeInfo) (z : Value) (ht : P.underlying t = some (.slice e)) (hi : P.info? e = some i) (hz : i.zero = some z) (hsize : i.size = 3) (hby : i.bytes = 40) (hzs : z.cells.size = 3)
    (a : Option Addr) (l c : Nat) (f : F) (bs : List Nat) (hs : ac.eval s = .slice a l c) (h : SlO w e a l c f bs) (hnd : bs.Nodup) (ha : c = 0 → a = none) (hl : l ≤ 100000) (ad : Addr) (hx : ac.eval x = .slice (some ad) 1 1) (k n : Int) (a' : Option Addr) (l' c' : Nat) (hnews : ∀ j u, [Value.int .i64 k, Value.int .i64 n, Value.slice a' l' c'][j]? = some u → w.cell? (ad.add j) = some u)
    (d : F) (bd : List Nat) (hd : SlO w e a' l' c' d bd) (hndd : bd.Nodup) (hdis : ∀ x ∈ bs, x ∉ bd)
    (H : ∀ a2 c2 bs2 w', SlO w' e a2 (l + 1) c2 (f.app (.cons k n d .nil)) bs2 → bs2.Nodup → (∀ x ∈ bs2, x ∈ bs ∨ x ∈ bd ∨ w.heap.size ≤ x) → Tn w w' bs → 0 < c2 → wpList P ops Q rest (ac.put o.dst (.slice a2 (l + 1) c2)) w') :
    wpList P ops Q (o :: rest) ac w :=
  wpList_plain hg fun _ hK => wp_pushT s x t ho e i z ht hi hz hsize hby hzs a l c f bs hs h hnd ha hl ad hx k n a' l' c' hnews d bd hd hndd hdis fun a2 c2 bs2 w' h1 h2 h3 h4 h5 => hK _ _ (H a2 c2 bs2 w' h1 h2 h3 h4 h5)
theorem news3 {u : World} {q : Nat} {v0 v1 v2 : Value} (h0 : u.cell? ⟨q, 0, none⟩ = some v0) (h1 : u.cell? ⟨q, 1, none⟩ = some v1) (h2 : u.cell? ⟨q, 2, none⟩ = some v2) : ∀ j v, [v0, v1, v2][j]? = some v → u.cell? ((⟨q, 0, none⟩ : Addr).add j) = some v := by
  intro j v hv
  rw [Go.WideShapes.add_plain, Nat.zero_add]
  match j, hv with
  | 0, hv => simp at hv; subst hv; exact h0
  | 1, hv => simp at hv; subst hv; exact h1
  | 2, hv => simp at hv; subst hv; exact h2
  | j + 3, hv => simp at hv
theorem results_cell2 {P : Program} {fn : Func} {p u : Tmp} {ty : TypeId} (h : fn.results = #[.cell p ty, .tmp u]) (tmps : Array Value) (w : World) (g : Nat) (t : TypeId) (cs : Array Value) (fr : Nat × Nat) (d : TypeDesc)
    (hp : tmps.getD p undef = .pointer (some ⟨g, 0, none⟩)) (hg : w.heap[g]? = some (.cells cs t fr))
    (hu : P.underlying ty = some d) (hd : (match d with | .struct _ | .array _ _ => true | _ => false) = true) (hi : (P.info? ty).map (·.size) = some cs.size) :
    (results fn tmps).run P w = .ok (.tuple #[.agg cs, tmps.getD u undef]) w := by
  have hp' : tmps[p]?.getD undef = .pointer (some ⟨g, 0, none⟩) := by simpa using hp
  simp [results, h, hp', asAddr, run_loadVar_row w g t ty cs fr d hg hu hd hi]
end Go.Proofs.YtpdkgmagjhibkaaGreatDoor.By
