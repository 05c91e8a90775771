/-
  One more slice behind a row of slices of our own; the names of data and of constructors. No statement is proved here.
-/
import Derived.Test.YtgjoklakomihaaaEN
import Derived.Test.YtgjoklakomihaaaEH
import Derived.Deep.AppendSrc
namespace Go.Proofs.Ytgjoklakomihaaa.By
open Go.RowKit
set_option linter.unusedVariables false
set_option linter.unusedSimpArgs false

/-- A row of one-cell values of our own, in a block from lo on. -/
def OwV (w : World) (t : TypeId) (lo : Nat) (a : Option Addr) (l c : Nat) (vs : List Value) : Prop :=
  vs.length = l ∧ l ≤ c ∧ ((c = 0 ∧ a = none) ∨ ∃ g cur, lo ≤ g ∧ a = some ⟨g, 0, none⟩ ∧ w.heap[g]? = some (.cells cur t (0, 0)) ∧ cur.size = c ∧ cur.toList.take l = vs)
theorem OwV.none {w u : World} {t : TypeId} {lo : Nat} {a : Option Addr} {l c : Nat} {vs : List Value} (h : OwV w t lo a l c vs) (hg : w.grownBy u Option.none) : OwV u t lo a l c vs := by
  obtain ⟨h1, h2, h3⟩ := h
  refine ⟨h1, h2, ?_⟩
  rcases h3 with h3 | ⟨g, cur, h4, h5, h6, h7⟩
  · exact .inl h3
  · exact .inr ⟨g, cur, h4, h5, (hg.block g (lt_of_block h6) (by simp)).trans h6, h7⟩

theorem run_pushV {P : Program} {w : World} (t ty e : TypeId) (i : TypeInfo) (z : Value) (ht : P.underlying t = some (.slice e)) (hi : P.info? e = some i) (hz : i.zero = some z) (hsize : i.size = 1) (hby : i.bytes = 24) (hzs : z.cells.size = 1)
    (lo : Nat) (a : Option Addr) (l c : Nat) (vs : List Value) (h : OwV w e lo a l c vs) (hlo : lo ≤ w.heap.size) (hl : l ≤ 2000000) (ad : Addr) (v : Value) (hv1 : v.oneCell' = true) (hnews : ∀ j u, [v][j]? = some u → w.cell? (ad.add j) = some u) :
    ∃ a2 c2 w', (Builtin.append_ #[t, t] ty #[.slice a l c, .slice (some ad) 1 1]).run P w = .ok (.slice a2 (l + 1) c2) w' ∧ OwV w' e lo a2 (l + 1) c2 (vs ++ [v]) ∧ (∀ wb : World, wb.grownBy w none → wb.heap.size ≤ lo → wb.grownBy w' none) := by
  obtain ⟨hvl, hlc, hx⟩ := h
  have src : Src P i.size t (.slice (some ad) 1 1) 1 [v] w := Src.ofSlice w ht ad 1 1 _ (by simp [hsize]) hnews (fun x hx => by simp at hx; rw [hx]; exact hv1)
  have hgrow : ∀ (hold : (Builtin.firstCells i.size l (.slice a l c)).run P w.drew = .ok vs.toArray w.drew) (hd' : c < l + 1),
      ∃ a2 c2 w', (Builtin.append_ #[t, t] ty #[.slice a l c, .slice (some ad) 1 1]).run P w = .ok (.slice a2 (l + 1) c2) w' ∧ OwV w' e lo a2 (l + 1) c2 (vs ++ [v]) ∧ (∀ wb : World, wb.grownBy w none → wb.heap.size ≤ lo → wb.grownBy w' none) := by
    intro hold hd'
    have r := run_append_grow_src (P := P) w t t ty e i z ht hi hz a l c vs hold (.slice (some ad) 1 1) 1 _ src hd' (by omega) (growslice_fits hd' (by rw [hby]; omega))
    have hge := grownCap_ge w (l + 1) c e
    have hnew := heap_alloc_new w.drew (.cells ((vs ++ [v]).toArray ++ Builtin.zeroCells z.cells (grownCap w (l + 1) c e - (l + 1))) e)
    have hnew : (w.drew.alloc (.cells ((vs ++ [v]).toArray ++ Builtin.zeroCells z.cells (grownCap w (l + 1) c e - (l + 1))) e)).heap[w.heap.size]? = _ := hnew
    refine ⟨_, _, _, r, ⟨by simp [hvl], hge, .inr ⟨_, _, hlo, rfl, hnew, ?_, ?_⟩⟩, fun wb hb _ => grown_trans (grown_drew hb) (World.grownBy_alloc _ _ _)⟩
    · simp only [Array.size_append, List.size_toArray, size_zeroCells, hzs, List.length_append, hvl, List.length_cons, List.length_nil]
      omega
    · rw [Array.toList_append, List.take_append_of_le_length (by simp [hvl]), List.take_of_length_le (by simp [hvl])]
  rcases hx with ⟨hc0, ha⟩ | ⟨g, cur, hg0, rfl, hg, hsz, htk⟩
  · subst ha
    obtain rfl : l = 0 := by omega
    obtain rfl := List.eq_nil_of_length_eq_zero hvl
    subst hc0
    exact hgrow (run_firstCells_none w.drew i.size 0 0 0) (by omega)
  · by_cases hroom : l + 1 ≤ c
    · have hB : ∀ j, j < c → ∃ x, w.cell? ⟨g, j, none⟩ = some x := fun j hj => by
        rw [cell_of_row w g j cur e (0, 0) hg]
        exact ⟨cur[j]'(by omega), by simp [hsz, hj]⟩
      have r := run_append_room_src (P := P) w t t ty e i ht hi g 0 l c (.slice (some ad) 1 1) 1 _ src hroom (by rw [hsize]; intro j hj; simp at hj; obtain ⟨x, hx⟩ := hB l (by omega); rw [show 0 + l * 1 + j = l by omega, hx]; rfl) (by rw [hsize]; intro j hj; exact frozen_of_row w g _ _ e hg)
      rw [hsize, Nat.zero_add, Nat.mul_one] at r
      have r' : (Builtin.append_ #[t, t] ty #[.slice (some ⟨g, 0, none⟩) l c, .slice (some ad) 1 1]).run P w = .ok (.slice (some ⟨g, 0, none⟩) (l + 1) c) (w.setCell ⟨g, l, none⟩ v) := r
      have hs := heap_setCell_same w g l cur e v hg
      refine ⟨_, _, _, r', ⟨by simp [hvl], hroom, .inr ⟨g, _, hg0, rfl, hs, by simpa using hsz, ?_⟩⟩, fun wb hb hbl => grown_into hb (grown_setCell _ _ _ _) (by omega)⟩
      apply List.ext_getElem?
      intro j
      rw [Array.toList_setIfInBounds]
      by_cases hj : j < l
      · rw [List.getElem?_take_of_lt (by omega), List.getElem?_set_ne (by omega), List.getElem?_append_left (by omega), ← htk, List.getElem?_take_of_lt hj]
      · by_cases hj2 : j = l
        · subst hj2
          rw [List.getElem?_take_of_lt (by omega), List.getElem?_set_self (by simpa using (by omega : j < cur.size)), List.getElem?_append_right (by omega), hvl]
          simp
        · rw [List.getElem?_eq_none (by simp; omega), List.getElem?_eq_none (by simp [hvl]; omega)]
    · refine hgrow ?_ (by omega)
      have hlen : (cur.toList.take l).length = l := by simp; omega
      have := run_firstCells_some (P := P) w.drew i.size l ⟨g, 0, none⟩ l c (cur.toList.take l) (by simp [hsize]; omega) (fun j u hu => ?_)
      · rw [htk] at this; exact this
      · have hj : j < l := by have := (List.getElem?_eq_some_iff.1 hu).1; simp at this; omega
        rw [Go.WideShapes.add_plain, Nat.zero_add]
        have hc : w.drew.cell? ⟨g, j, none⟩ = cur[j]? := cell_of_row w.drew g j cur e (0, 0) hg
        rw [hc]
        rw [List.getElem?_take_of_lt hj, Array.getElem?_toList] at hu
        exact hu

theorem wpList_pushV {P : Program} {w : World} {ops : Array Oper} {rest : List Oper} {o : Oper} {ac : Act} {Q : Exit → Act → World → Prop}
    (hg : o.guard = none) (s x : Operand) (t : TypeId) (ho : o.op = .call { callee := .builtin .append, args := #[s, x], argTypes := #[t, t] })
    (e : TypeId) (i : TypeInfo) (z : Value) (ht : P.underlying t = some (.slice e)) (hi : P.info? e = some i) (hz : i.zero = some z) (hsize : i.size = 1) (hby : i.bytes = 24) (hzs : z.cells.size = 1)
    (lo : Nat) (a : Option Addr) (l c : Nat) (vs : List Value) (hs : ac.eval s = .slice a l c) (h : OwV w e lo a l c vs) (hlo : lo ≤ w.heap.size) (hl : l ≤ 2000000) (ad : Addr) (hx : ac.eval x = .slice (some ad) 1 1) (v : Value) (hv1 : v.oneCell' = true) (hnews : ∀ j u, [v][j]? = some u → w.cell? (ad.add j) = some u)
    (H : ∀ a2 c2 w', OwV w' e lo a2 (l + 1) c2 (vs ++ [v]) → (∀ wb : World, wb.grownBy w none → wb.heap.size ≤ lo → wb.grownBy w' none) → wpList P ops Q rest (ac.put o.dst (.slice a2 (l + 1) c2)) w') :
    wpList P ops Q (o :: rest) ac w := by
  refine wpList_plain hg fun K hK => ?_
  obtain ⟨a2, c2, w', hrun, h1, h2⟩ := run_pushV (P := P) (w := w) t o.type e i z ht hi hz hsize hby hzs lo a l c vs h hlo hl ad v hv1 hnews
  unfold Oper.wp execOp
  simp only [ho, resolve, invoke, builtin, Sem.run_bind, Sem.run_pure, Result.andThen_ok, List.map_toArray, List.map_cons, List.map_nil, hs, hx, hrun]
  exact hK _ _ (H a2 c2 w' h1 h2)
theorem infoBy : (Try.prog.info? 30).map (fun i => (i.zero, i.size, i.bytes)) = some (some (.slice none 0 0), 1, 24) := by kernel_rfl
/-- Values that are rows of bytes, each read. -/
def RdVs (w : World) : List Value → List (List Int) → Prop
  | [], [] => True
  | v :: r, x :: s => (∃ a n c, v = .slice a n c ∧ RdB w a n x) ∧ RdVs w r s
  | _, _ => False
theorem RdVs.app {w : World} : ∀ {vs : List Value} {xs : List (List Int)} {v : Value} {x : List Int}, RdVs w vs xs → (∃ a n c, v = .slice a n c ∧ RdB w a n x) → RdVs w (vs ++ [v]) (xs ++ [x])
  | [], [], v, x, _, k => ⟨k, trivial⟩
  | _ :: _, _ :: _, v, x, h, k => ⟨h.1, RdVs.app h.2 k⟩
  | [], _ :: _, _, _, h, _ => h.elim
  | _ :: _, [], _, _, h, _ => h.elim
theorem RdVs.len {w : World} : ∀ {vs : List Value} {xs : List (List Int)}, RdVs w vs xs → vs.length = xs.length
  | [], [], _ => rfl
  | _ :: _, _ :: _, h => by simp [RdVs.len h.2]
  | [], _ :: _, h => h.elim
  | _ :: _, [], h => h.elim
theorem inSS_of {w wp : World} {b : Nat} : ∀ {vs : List Value} {xs : List (List Int)} {off : Nat}, RdVs wp vs xs → (∀ j v, vs[j]? = some v → w.cell? ⟨b, off + j, none⟩ = some v) → InSS w wp xs b off
  | [], [], _, _, _ => trivial
  | v :: r, x :: s, off, h, k => by
    obtain ⟨⟨a, n, c, rfl, hd⟩, hr⟩ := h
    refine ⟨⟨a, n, c, by simpa using k 0 _ rfl, hd⟩, inSS_of hr (fun j v hv => ?_)⟩
    have := k (j + 1) v (by simpa using hv)
    rw [show off + 1 + j = off + (j + 1) by omega]; exact this
  | [], _ :: _, _, h, _ => h.elim
  | _ :: _, [], _, h, _ => h.elim
theorem OwV.read {w : World} {t : TypeId} {lo : Nat} {a : Option Addr} {l c : Nat} {vs : List Value} {xs : List (List Int)} (h : OwV w t lo a l c vs) (k : RdVs w vs xs) (hl : l ≤ 2000000) : SlSS w a l xs := by
  obtain ⟨h1, h2, h3⟩ := h
  refine ⟨by rw [← k.len, h1], by omega, ?_⟩
  rcases h3 with ⟨h3, -⟩ | ⟨g, cur, -, e, hg, hsz, htk⟩
  · exact .inl (by omega)
  · refine .inr ⟨g, 0, e, inSS_of k (fun j v hv => ?_)⟩
    rw [Nat.zero_add, cell_of_row w g j cur t (0, 0) hg]
    rw [← htk] at hv
    have hj : j < l := by have := (List.getElem?_eq_some_iff.1 hv).1; simp at this; omega
    rw [List.getElem?_take_of_lt hj, Array.getElem?_toList] at hv
    exact hv
theorem RdVs.le {w u : World} (k : CLe w u) : ∀ {vs : List Value} {xs : List (List Int)}, RdVs w vs xs → RdVs u vs xs
  | [], [], _ => trivial
  | v :: r, x :: s, h => by
    obtain ⟨⟨a, n, c, e, hd⟩, hr⟩ := h
    exact ⟨⟨a, n, c, e, hd.le k⟩, RdVs.le k hr⟩
  | [], _ :: _, h => h.elim
  | _ :: _, [], h => h.elim
end Go.Proofs.Ytgjoklakomihaaa.By
