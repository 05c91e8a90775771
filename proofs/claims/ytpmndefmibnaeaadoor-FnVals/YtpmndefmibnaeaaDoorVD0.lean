/-
  Drawn values: worlds with blocks hidden; rows of values that grow. No statement is proved here.
-/
import Derived.Test.YtpmndefmibnaeaaDoorVIf
import Derived.Test.YtpmndefmibnaeaaDoorSomeB
import Derived.Test.YtpmndefmibnaeaaDoorVTo
namespace Go.Proofs.YtpmndefmibnaeaaDoor.By
open Go.RowKit
set_option linter.unusedVariables false
set_option linter.unusedSimpArgs false

/-- A world with all blocks below lo, block r, and all that are frozen or no cells, made empty. -/
def hideO (w : World) (lo : Nat) (r : Option Nat) : World := { w with heap := w.heap.mapIdx fun i o => if (lo ≤ i ∧ some i ≠ r) ∧ isPl o = true then o else .map #[] 0 }
theorem hideO_heap {w : World} {lo i : Nat} {r : Option Nat} {cur : Array Value} {t : TypeId} (h : lo ≤ i) (hr : some i ≠ r) (hb : w.heap[i]? = some (.cells cur t (0, 0))) : (hideO w lo r).heap[i]? = some (.cells cur t (0, 0)) := by
  unfold hideO
  rw [Array.getElem?_mapIdx, hb]
  simp [h, hr, isPl]
theorem hideO_inv {w : World} {lo : Nat} {r : Option Nat} {p : Addr} {v : Value} (h : (hideO w lo r).cell? p = some v) : (lo ≤ p.block ∧ some p.block ≠ r) ∧ w.cell? p = some v ∧ ∃ cur t, w.heap[p.block]? = some (.cells cur t (0, 0)) := by
  have key : ((hideO w lo r).heap[p.block]? = none ∨ (hideO w lo r).heap[p.block]? = some (.map #[] 0)) ∨ ((lo ≤ p.block ∧ some p.block ≠ r) ∧ ∃ cur t, w.heap[p.block]? = some (.cells cur t (0, 0))) := by
    unfold hideO
    rw [Array.getElem?_mapIdx]
    cases hb : w.heap[p.block]? with
    | none => exact .inl (.inl rfl)
    | some o =>
      by_cases hc : (lo ≤ p.block ∧ some p.block ≠ r) ∧ isPl o = true
      · refine .inr ⟨hc.1, ?_⟩
        cases o with
        | cells cur t fr =>
          have := hc.2
          simp only [isPl, decide_eq_true_eq] at this
          subst this
          exact ⟨cur, t, rfl⟩
        | _ => exact absurd hc.2 (by simp [isPl])
      · refine .inl (.inr ?_)
        show some (if (lo ≤ p.block ∧ some p.block ≠ r) ∧ isPl o = true then o else .map #[] 0) = _
        rw [if_neg hc]
  obtain ⟨b, off, s⟩ := p
  rcases key with (e | e) | ⟨h1, cur, t, h2⟩
  · simp [World.cell?, e] at h
  · simp [World.cell?, e] at h
  · refine ⟨h1, ?_, cur, t, h2⟩
    rw [← h]
    exact (cell_any (p := ⟨b, off, s⟩) ((hideO_heap h1.1 h1.2 h2).trans h2.symm)).symm
theorem CLe.hidO {u u' : World} {lo lo' : Nat} {r r' : Option Nat} (hl : lo' ≤ lo) (h : ∀ i, lo ≤ i → some i ≠ r → i < u.heap.size → u'.heap[i]? = u.heap[i]? ∧ some i ≠ r') : CLe (hideO u lo r) (hideO u' lo' r') := by
  intro p v hv
  obtain ⟨h1, h2, cur, t, h3⟩ := hideO_inv hv
  obtain ⟨e, hr⟩ := h p.block h1.1 h1.2 (lt_of_block h3)
  have h4 := hideO_heap (w := u') (Nat.le_trans hl h1.1) hr (e.trans h3)
  rw [cell_any (w := u) (h4.trans h3.symm)]
  exact h2
theorem CLe.hidOZ {u : World} {lo lo' : Nat} {r : Option Nat} (hl : lo' ≤ lo) : CLe (hideO u lo r) (hideZ u lo') := by
  intro p v hv
  obtain ⟨h1, h2, cur, t, h3⟩ := hideO_inv hv
  have h4 := hideZ_heap (w := u) (Nat.le_trans hl h1.1) h3
  rw [cell_any (w := u) (h4.trans h3.symm)]
  exact h2
theorem CLe.hidZO {u u' : World} {lo lo' : Nat} {r : Option Nat} (hl : lo' ≤ lo) (h : ∀ i, lo ≤ i → i < u.heap.size → u'.heap[i]? = u.heap[i]? ∧ some i ≠ r) : CLe (hideZ u lo) (hideO u' lo' r) := by
  intro p v hv
  obtain ⟨h1, h2, cur, t, h3⟩ := hideZ_inv hv
  obtain ⟨e, hr⟩ := h p.block h1 (lt_of_block h3)
  have h4 := hideO_heap (w := u') (Nat.le_trans hl h1) hr (e.trans h3)
  rw [cell_any (w := u) (h4.trans h3.symm)]
  exact h2
/-- What turns is hidden. -/
theorem hidO_grown {w u : World} {lo : Nat} {r row : Option Nat} (h : w.grownBy u row) (hr : ∀ b, row = some b → b < lo ∨ some b = r) : CLe (hideO w lo r) (hideO u lo r) :=
  CLe.hidO (Nat.le_refl _) fun i h1 h2 h3 => ⟨h.block i h3 (fun e => by
    rcases hr i e.symm with h4 | h4
    · omega
    · exact h2 h4), h2⟩
theorem CLe.unhidO {u : World} {lo : Nat} {r : Option Nat} : CLe (hideO u lo r) u := fun p v hv => (hideO_inv hv).2.1

theorem app_blkV {P : Program} {w : World} (t tx ty e : TypeId) (B : Nat) (i : TypeInfo) (z : Value) (ht : P.underlying t = some (.slice e)) (hi : P.info? e = some i) (hz : i.zero = some z)
    (hsize : i.size = 4) (hby : i.bytes = 64) (v : Value) (n : Nat) (xs : List Value) (hown : w.ownsRow B e 4 v n xs) (x : Value) (m : Nat) (news : List Value) (hs : Src P i.size tx x m news w) (hm : n + m ≤ 4194304)
    (v' : Value) (w' : World) (hr : (Builtin.append_ #[t, tx] ty #[v, x]).run P w = .ok v' w') (hnil : v' = .slice none 0 0 ↔ v = .slice none 0 0 ∧ m = 0) : v'.ownBlock = v.ownBlock ∨ v'.ownBlock = some w.heap.size := by
  rcases hown.2 with ⟨rfl, rfl⟩ | ⟨g, cap, cur, rfl, hbg, hg, hnc, hcm, hcs, htake⟩
  · by_cases h0 : m = 0
    · rw [hnil.2 ⟨rfl, h0⟩]; exact .inl rfl
    · have r := run_append_grow_src (P := P) w t tx ty e i z ht hi hz none 0 0 [] (run_firstCells_none w.drew i.size 0 0 0) x m news hs (by omega) (by omega) (growslice_fits (by omega) (by rw [hby]; omega))
      rw [r] at hr
      injection hr with g1 g2
      rw [← g1]; exact .inr rfl
  · by_cases hroom : n + m ≤ cap
    · have r := run_append_room_src (P := P) w t tx ty e i ht hi g 0 n cap x m news hs hroom (fun j hj => by
        have hl := hs.newsLen
        rw [hsize] at hl
        have hlt : 0 + n * i.size + j < cur.size := by rw [hsize, hcs]; omega
        rw [cell_of_row w g _ _ _ (0, 0) hg, Array.getElem?_eq_getElem hlt]; rfl) (fun j hj => frozen_of_row w g _ _ _ hg)
      rw [r] at hr
      injection hr with g1 g2
      rw [← g1]; exact .inl rfl
    · have hold : (Builtin.firstCells i.size n (.slice (some ⟨g, 0, none⟩) n cap)).run P w.drew = .ok xs.toArray w.drew := by
        refine run_firstCells_some w.drew i.size n ⟨g, 0, none⟩ n cap _ (by rw [hsize]; exact hown.1) (fun j u hu => ?_)
        rw [Go.WideShapes.add_plain, Nat.zero_add]
        have hj : j < n * 4 := by have h1 := (List.getElem?_eq_some_iff.1 hu).1; have h2 := hown.1; omega
        have e : w.drew.cell? ⟨g, j, none⟩ = cur[j]? := cell_of_row w g j _ _ (0, 0) hg
        rw [e, ← Array.getElem?_toList, ← hu, ← htake, List.getElem?_take_of_lt (by omega)]
      have r := run_append_grow_src (P := P) w t tx ty e i z ht hi hz (some ⟨g, 0, none⟩) n cap xs hold x m news hs (by omega) (by omega) (growslice_fits (by omega) (by rw [hby]; omega))
      rw [r] at hr
      injection hr with g1 g2
      rw [← g1]; exact .inr rfl

/-- A row's cells are the values f, whose parts are read in wp. -/
def VsR (wp : World) : V → List Value → Prop
  | .nil, vs => vs = []
  | .cons k n t d r, vs => ∃ a1 l1 c1 a2 l2 c2 rest, vs = [.int .i64 k, .int .i64 n, .slice a1 l1 c1, .slice a2 l2 c2] ++ rest ∧ l1 ≤ c1 ∧ RdB wp a1 l1 t ∧ SlVal wp a2 l2 d ∧ VsR wp r rest
theorem VsR.le {wp up : World} (k : CLe wp up) : ∀ (f : V) (vs : List Value), VsR wp f vs → VsR up f vs := by
  intro f
  induction f with
  | nil => intro vs h; exact h
  | cons k0 n t d r _ ih =>
    intro vs h
    obtain ⟨a1, l1, c1, a2, l2, c2, rest, e, h1, h2, h3, h4⟩ := h
    exact ⟨a1, l1, c1, a2, l2, c2, rest, e, h1, h2.le k, h3.le k, ih _ h4⟩
theorem VsR.app {wp : World} : ∀ (f : V) (vs : List Value) (x : RVal) (a1 : Option Addr) (l1 c1 : Nat) (a2 : Option Addr) (l2 c2 : Nat), VsR wp f vs → l1 ≤ c1 → RdVal wp x a1 l1 a2 l2 → VsR wp (f.app (V.cn x .nil)) (vs ++ [.int .i64 x.k, .int .i64 x.n, .slice a1 l1 c1, .slice a2 l2 c2]) := by
  intro f
  induction f with
  | nil =>
    intro vs x a1 l1 c1 a2 l2 c2 h hl hr
    obtain rfl : vs = [] := h
    exact ⟨a1, l1, c1, a2, l2, c2, [], rfl, hl, hr.1, hr.2, rfl⟩
  | cons k0 n t d r _ ih =>
    intro vs x a1 l1 c1 a2 l2 c2 h hl hr
    obtain ⟨b1, m1, e1, b2, m2, e2, rest, e, h1, h2, h3, h4⟩ := h
    subst e
    exact ⟨b1, m1, e1, b2, m2, e2, rest ++ [.int .i64 x.k, .int .i64 x.n, .slice a1 l1 c1, .slice a2 l2 c2], by simp, h1, h2, h3, ih _ _ _ _ _ _ _ _ h4 hl hr⟩
theorem VsR.len {wp : World} : ∀ (f : V) (vs : List Value), VsR wp f vs → vs.length = f.len * 4 := by
  intro f
  induction f with
  | nil => intro vs h; rw [show vs = [] from h]; rfl
  | cons k0 n t d r _ ih =>
    intro vs h
    obtain ⟨_, _, _, _, _, _, rest, e, _, _, _, h4⟩ := h
    have := ih _ h4
    subst e
    simp only [List.length_append, List.length_cons, List.length_nil, V.len]
    omega
theorem VsR.lies {w wp : World} {b : Nat} : ∀ (f : V) (vs : List Value) (o : Nat), VsR wp f vs → (∀ i v, vs[i]? = some v → w.cell? ⟨b, o + i, none⟩ = some v) → InVal w wp f b o := by
  intro f
  induction f with
  | nil => intros; trivial
  | cons k0 n t d r _ ih =>
    intro vs o h hc
    obtain ⟨a1, l1, c1, a2, l2, c2, rest, e, h1, h2, h3, h4⟩ := h
    subst e
    refine ⟨⟨a1, l1, c1, a2, l2, c2, ⟨by simpa using hc 0 _ rfl, hc 1 _ rfl, hc 2 _ rfl, hc 3 _ rfl⟩, h1, h2, h3⟩, ih _ _ h4 (fun i v hv => ?_)⟩
    have := hc (i + 4) v (by simpa using hv)
    rw [show o + 4 + i = o + (i + 4) by omega]; exact this
/-- A row of values of our own. -/
structure OwnV (w wp : World) (B : Nat) (v : Value) (f : V) (vs : List Value) : Prop where
  own : w.ownsRow B 31 4 v f.len vs
  rd : VsR wp f vs
theorem OwnV.slice {w wp : World} {B : Nat} {v : Value} {f : V} {vs : List Value} (h : OwnV w wp B v f vs) : ∃ a c, v = .slice a f.len c ∧ f.len ≤ c ∧ (a = none → c = 0) := by
  rcases h.own.2 with ⟨e, h0⟩ | ⟨g, cap, cur, e, _, _, hn, _⟩
  · have hl : f.len = 0 := by have := h.own.1; rw [h0] at this; simp at this; omega
    exact ⟨none, 0, by rw [hl]; exact e, by omega, fun _ => rfl⟩
  · exact ⟨_, cap, e, hn, fun h => by cases h⟩
/-- Read where the row's own block is seen, too. -/
theorem OwnV.reads {w wp : World} {B lo : Nat} {a : Option Addr} {c : Nat} {f : V} {vs : List Value} (h : OwnV w wp B (.slice a f.len c) f vs) (hB : lo ≤ B) (k : CLe wp (hideZ w lo)) (hm : f.len ≤ 1000000) : SlVal (hideZ w lo) a f.len f := by
  refine ⟨rfl, by omega, ?_⟩
  rcases h.own.2 with ⟨e, h0⟩ | ⟨g, cap, cur, e, hb, hg, hn, _, _, ht⟩
  · injection e with e1 e2 e3
    exact .inl e2
  · injection e with e1 e2 e3
    subst e1
    refine .inr ⟨g, 0, rfl, VsR.lies f vs 0 (h.rd.le k) (fun i v hv => ?_)⟩
    have hh := hideZ_heap (w := w) (Nat.le_trans hB hb) hg
    rw [Nat.zero_add, cell_of_row _ g i cur _ (0, 0) hh]
    have hil : i < vs.length := (List.getElem?_eq_some_iff.1 hv).1
    have hvl := VsR.len f vs h.rd
    rw [← Array.getElem?_toList, ← hv, ← ht, List.getElem?_take_of_lt (by omega)]
theorem infoVV : (Tryd.prog.info? 31).map (fun i => (i.zero, i.size, i.bytes)) = some (some (.agg #[.int .i64 0, .int .i64 0, .slice none 0 0, .slice none 0 0]), 4, 64) := by kernel_rfl

/-- One value more behind a row of our own. -/
theorem run_appV {w : World} (B : Nat) (v : Value) (f : V) (vs : List Value) (lo : Nat) (h : OwnV w (hideO w lo v.ownBlock) B v f vs) (p : Nat) (x : RVal) (a1 : Option Addr) (l1 c1 : Nat) (a2 : Option Addr) (l2 c2 : Nat) (c : Nat) (ty : TypeId)
    (hp : w.heap[p]? = some (.cells #[.int .i64 x.k, .int .i64 x.n, .slice a1 l1 c1, .slice a2 l2 c2] 31 (0, 0))) (hl : l1 ≤ c1) (hr : RdVal (hideO w lo v.ownBlock) x a1 l1 a2 l2) (hm : f.len ≤ 1000000) (hB : B ≤ w.heap.size) :
    ∃ v' w', (Builtin.append_ #[29, 29] ty #[v, .slice (some ⟨p, 0, none⟩) 1 c]).run Tryd.prog w = .ok v' w' ∧ OwnV w' (hideO w' lo v'.ownBlock) B v' (f.app (V.cn x .nil)) (vs ++ [.int .i64 x.k, .int .i64 x.n, .slice a1 l1 c1, .slice a2 l2 c2]) ∧ w.grownBy w' v.ownBlock ∧ CLe (hideO w lo v.ownBlock) (hideO w' lo v'.ownBlock) := by
  obtain ⟨i, hi, hz, hsz, hby⟩ := info_parts infoVV
  have hnews : ∀ j u, ([.int .i64 x.k, .int .i64 x.n, .slice a1 l1 c1, .slice a2 l2 c2] : List Value)[j]? = some u → w.cell? ((⟨p, 0, none⟩ : Addr).add j) = some u := fun j u hj => by
    rw [Go.WideShapes.add_plain, Nat.zero_add, cell_of_row w p j _ 31 (0, 0) hp]
    match j, hj with
    | 0, hj => exact hj
    | 1, hj => exact hj
    | 2, hj => exact hj
    | 3, hj => exact hj
    | j + 4, hj => simp at hj
  have hone : ∀ u ∈ ([.int .i64 x.k, .int .i64 x.n, .slice a1 l1 c1, .slice a2 l2 c2] : List Value), u.oneCell' = true := fun u hu => by
    simp only [List.mem_cons, List.not_mem_nil, or_false] at hu
    rcases hu with rfl | rfl | rfl | rfl <;> rfl
  obtain ⟨v', w', h1, h2, h3, h4⟩ := run_append_own (P := Tryd.prog) w B 29 ty 31 i _ 4 64 Tryd.underlying29 hi hz hsz hby rfl (by decide) v f.len vs h.own ⟨p, 0, none⟩ 1 c _ (by rfl) hnews hone (by unfold maxLen; omega) (by omega) hB
  have hblk := app_blkV (P := Tryd.prog) 29 29 ty 31 B i _ Tryd.underlying29 hi hz hsz hby v f.len vs h.own _ 1 _ (Src.ofSlice w Tryd.underlying29 ⟨p, 0, none⟩ 1 c _ (by rw [hsz]; rfl) hnews hone) (by omega) v' w' h1 h4
  have hcl : CLe (hideO w lo v.ownBlock) (hideO w' lo v'.ownBlock) := CLe.hidO (Nat.le_refl _) fun j k1 k2 k3 => ⟨h3.block j k3 k2, by
    rcases hblk with e | e
    · rw [e]; exact k2
    · rw [e]; intro e2; injection e2 with e2; omega⟩
  refine ⟨v', w', h1, ⟨?_, VsR.app f _ x a1 l1 c1 a2 l2 c2 (h.rd.le hcl) hl (hr.le hcl)⟩, h3, hcl⟩
  rw [V.app_len]
  exact h2
end Go.Proofs.YtpmndefmibnaeaaDoor.By
