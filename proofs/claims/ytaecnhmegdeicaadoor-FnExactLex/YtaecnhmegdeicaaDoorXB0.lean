/-
  Rows of our own, and marks on rows of bytes: what does not depend on a seat's structs. No statement is proved here.
-/
import Derived.Test.YtaecnhmegdeicaaDoorEC1
import Derived.Test.YtaecnhmegdeicaaDoorGI
import Derived.Laws.AppendOwnNone
import Derived.OneCell
import Derived.Lib.SmallJoins
import Derived.Deep.DeepCutAuto
namespace Go.Proofs.YtaecnhmegdeicaaDoor.By
open Go.RowKit
set_option linter.unusedVariables false
set_option linter.unusedSimpArgs false

def vB (zs : List Int) : List Value := zs.map fun z => .int .u8 z

theorem vB_len (zs : List Int) : (vB zs).length = zs.length := by simp [vB]

theorem vB_get {zs : List Int} {j : Nat} (h : j < zs.length) : (vB zs)[j]? = some (.int .u8 (zs.getD j 0)) := by simp [vB, h]

theorem vB_one (zs : List Int) : ∀ u ∈ vB zs, u.oneCell' = true := by
  intro u hu; simp only [vB, List.mem_map] at hu; obtain ⟨z, _, rfl⟩ := hu; rfl

theorem own_rdB {u : World} {B : Nat} {a : Option Addr} {l c : Nat} {zs : List Int} (h : u.ownsRow B 5 1 (.slice a l c) l (vB zs)) (hb : Byt zs) (hl : l ≤ 9223372036854775807) : RdB (hideZ u B) a l zs := by
  have hz : zs.length = l := by have := h.1; rw [vB_len] at this; omega
  refine ⟨⟨hz, ?_⟩, hb, hl⟩
  rcases h.2 with ⟨-, h0⟩ | ⟨g, cap, cur, e, hb, hg, hn, hm, hs, ht⟩
  · exact .inl h0
  · cases e
    refine .inr ⟨g, 0, rfl, fun i hi => ?_⟩
    rw [cell_of_row _ g _ cur 5 (0, 0) (hideZ_heap hb hg)]
    have h1 : (cur.toList.take (l * 1))[0 + i]? = cur.toList[0 + i]? := by rw [List.getElem?_take]; simp; omega
    rw [ht, Nat.zero_add, vB_get (by omega)] at h1
    rw [Nat.zero_add, ← Array.getElem?_toList, ← h1]

theorem row_cell {u : World} {B : Nat} {t : TypeId} {size : Nat} {a : Option Addr} {l c : Nat} {vs : List Value} (h : u.ownsRow B t size (.slice a l c) l vs) : l = 0 ∨ ∃ g, a = some ⟨g, 0, none⟩ ∧ B ≤ g ∧ (∃ cur, u.heap[g]? = some (.cells cur t (0, 0))) ∧ ∀ j x, vs[j]? = some x → (hideZ u B).cell? ⟨g, j, none⟩ = some x := by
  rcases h.2 with ⟨-, h0⟩ | ⟨g, cap, cur, e, hb, hg, hn, hm, hs, ht⟩
  · exact .inl h0
  · cases e
    refine .inr ⟨g, rfl, hb, ⟨cur, hg⟩, fun j x hj => ?_⟩
    rw [cell_of_row _ g _ cur t (0, 0) (hideZ_heap hb hg)]
    have hjl : j < l * size := by have := (List.getElem?_eq_some_iff.1 hj).1; rw [h.1] at this; exact this
    have h1 : (cur.toList.take (l * size))[j]? = cur.toList[j]? := by rw [List.getElem?_take]; simp; omega
    rw [ht, hj] at h1
    rw [← Array.getElem?_toList, ← h1]

theorem row_slice {w : World} {B : Nat} {t : TypeId} {size n : Nat} {v : Value} {xs : List Value} (h : w.ownsRow B t size v n xs) : ∃ a c, v = .slice a n c := by
  rcases h.2 with ⟨rfl, rfl⟩ | ⟨g, cap, cur, rfl, _⟩
  · exact ⟨none, 0, rfl⟩
  · exact ⟨_, cap, rfl⟩

theorem infoYb : (Tryd.prog.info? 5).map (fun i => (i.zero, i.size, i.bytes)) = some (some (.int .u8 0), 1, 1) := by kernel_rfl

theorem row_ne {w : World} {B q : Nat} {t t' : TypeId} {s n : Nat} {v : Value} {zs : List Value} {cur : Array Value} (h : w.ownsRow B t s v n zs) (hq : w.heap[q]? = some (.cells cur t' (0, 0))) (ht : t ≠ t') : v.ownBlock = none ∨ v.ownBlock ≠ some q := by
  rcases h.2 with ⟨rfl, -⟩ | ⟨g, cap, cur', rfl, -, hg, -⟩
  · left; rfl
  · right
    intro e
    have e' : g = q := by simpa [Value.ownBlock] using e
    subst e'
    rw [hq] at hg
    cases hg
    exact ht rfl

theorem step_ofY {P : Program} {ops : Array Oper} {o : Oper} {ac : Act} {w : World} {K : Act → World → Prop} {Q : Exit → Act → World → Prop} {E : Prop} (hg : o.guard = none) (h : Oper.wp P o ac w K Q) : if Region.wanted o (yielded ops ac.tmps) = true then Oper.wp P o ac w K Q else E := by
  have hw : Region.wanted o (yielded ops ac.tmps) = true := by simp [Region.wanted, hg]
  rw [if_pos hw]
  exact h

theorem rows_ne {w : World} {B B' : Nat} {t t' : TypeId} {s s' n n' : Nat} {v v' : Value} {zs zs' : List Value} (h : w.ownsRow B t s v n zs) (h' : w.ownsRow B' t' s' v' n' zs') (ht : t ≠ t') : v.ownBlock = none ∨ v.ownBlock ≠ v'.ownBlock := by
  rcases h.2 with ⟨rfl, -⟩ | ⟨g, cap, cur, rfl, -, hg, -⟩
  · left; rfl
  · right
    rcases h'.2 with ⟨rfl, -⟩ | ⟨g', cap', cur', rfl, -, hg', -⟩
    · simp [Value.ownBlock]
    · intro e
      have : g = g' := by simpa [Value.ownBlock] using e
      subst this
      rw [hg] at hg'; cases hg'; exact ht rfl

theorem row_blk {w : World} {B : Nat} {t : TypeId} {s n : Nat} {v : Value} {zs : List Value} (h : w.ownsRow B t s v n zs) : ∀ g, v.ownBlock = some g → B ≤ g ∧ ∃ cur, w.heap[g]? = some (.cells cur t (0, 0)) := fun g e => by
  rcases h.2 with ⟨rfl, -⟩ | ⟨g', cap, cur, rfl, hb, hg, -⟩
  · cases e
  · have : g' = g := by simpa [Value.ownBlock] using e
    subst this
    exact ⟨hb, cur, hg⟩

theorem row_eq {w : World} {B : Nat} {t : TypeId} {s n : Nat} {v : Value} {zs zs' : List Value} (h : w.ownsRow B t s v n zs) (e : zs = zs') : w.ownsRow B t s v n zs' := e ▸ h

theorem row_keep {u z : World} {B : Nat} {t : TypeId} {s m : Nat} {v : Value} {zs : List Value} {row : Option Nat} (h : u.ownsRow B t s v m zs) (hg : u.grownBy z row) (hr : ∀ b, row = some b → ∃ cur t', u.heap[b]? = some (Obj.cells cur t' (0, 0)) ∧ t ≠ t') : z.ownsRow B t s v m zs := by
  cases row with
  | none => exact h.kept hg (Classical.em _)
  | some b =>
    obtain ⟨cur, t', hb, ht⟩ := hr b rfl
    exact h.kept hg (row_ne h hb ht)

def mkB (k : Int) : Nat → List Int
  | 0 => []
  | n + 1 => mkB k n ++ [(k + n) % 256]

theorem mkB_len (k : Int) : ∀ n, (mkB k n).length = n
  | 0 => rfl
  | n + 1 => by simp [mkB, mkB_len k n]

theorem mkB_at (k : Int) : ∀ n i, i < n → (mkB k n).getD i 0 = (k + i) % 256
  | 0, i, h => by omega
  | n + 1, i, h => by
    have hl := mkB_len k n
    by_cases e : i = n
    · subst e; simp [mkB, List.getD, hl]
    · have := mkB_at k n i (by omega)
      rw [← this, mkB]
      simp [List.getD, List.getElem?_append_left (show i < (mkB k n).length by omega)]

theorem mkB_byt (k : Int) (n : Nat) : Byt (mkB k n) := by
  intro z hz
  induction n with
  | zero => simp [mkB] at hz
  | succ n ih =>
    rcases List.mem_append.1 (show z ∈ mkB k n ++ [(k + n) % 256] from hz) with h | h
    · exact ih h
    · simp at h; omega

set_option maxHeartbeats 2000000 in
theorem heldBs (a : Option Addr) (n c : Nat) (k0 : Int) (w : World) (h : RdB w a n (mkB k0 n)) (hn : n ≤ 4194304) (hk0 : 0 ≤ k0) (hk1 : k0 ≤ 1073741824) :
    Calls Tryd.prog 19 #[.slice a n c, .int .i64 k0] w fun e u => e = .returned (.int .i64 (k0 + n)) ∧ w.grownBy u none := by
  have HC : Hid (∀ k, k < n → ∃ b o, a = some ⟨b, o, none⟩ ∧ w.cell? ⟨b, o + k, none⟩ = some (.int .u8 ((k0 + k) % 256))) := fun k hk => by
    rcases h.1.2 with h0 | ⟨b, o, e, hc⟩
    · omega
    · have := hc k hk
      rw [mkB_at k0 n k hk] at this
      exact ⟨b, o, e, this⟩
  clear h
  go_enter Tryd.func19, Tryd.ntmps19
  go_wp2
  go_loop [1, 5] (fun v i => ∃ k : Nat, k ≤ n ∧ i = .int .i64 k ∧ v = .int .i64 (k0 + k)) (fun _ i => n - (intOf i).toNat)
  case atStart => exact ⟨0, Nat.zero_le _, rfl, by simp⟩
  case round =>
    obtain ⟨k, hk, rfl, rfl⟩ := hrel
    by_cases hlt : k < n
    · obtain ⟨b, o, rfl, h1⟩ := HC.out k hlt
      have hw : IntKind.u8.wrap (k0 + k) = (k0 + k) % 256 := rfl
      go_wp2
      go_round
      case rel => exact ⟨k + 1, by omega, by go_num, by go_num⟩
      case measure => simp [intOf]; omega
    · obtain rfl : k = n := by omega
      go_wp2
      go_ret
      first | exact ⟨rfl, World.grownBy.refl _ _⟩ | exact World.grownBy.refl _ _

set_option maxHeartbeats 2000000 in
theorem markBs (a : Option Addr) (n c B : Nat) (zs : List Int) (k0 : Int) (w : World) (h : w.ownsRow B 5 1 (.slice a n c) n (vB zs)) (hn : n ≤ 4194304) (hk0 : 0 ≤ k0) (hk1 : k0 ≤ 1073741824) :
    Calls Tryd.prog 9 #[.slice a n c, .int .i64 k0] w fun e u => e = .returned (.int .i64 (k0 + n)) ∧ u.ownsRow B 5 1 (.slice a n c) n (vB (mkB k0 n)) ∧ w.grownBy u (Value.slice a n c).ownBlock := by
  have HR0 : Hid (w.ownsRow B 5 1 (.slice a n c) n (vB zs)) := h
  have hVl : zs.length = n := by have := h.1; rw [vB_len] at this; omega
  clear h
  go_enter Tryd.func9, Tryd.ntmps9
  go_wp2
  go_loopw [1, 5] (fun v i wr => ∃ k : Nat, k ≤ n ∧ i = .int .i64 k ∧ v = .int .i64 (k0 + k) ∧ Hid (wr.ownsRow B 5 1 (.slice a n c) n (vB (mkB k0 k) ++ vB (zs.drop k)) ∧ w.grownBy wr (Value.slice a n c).ownBlock)) (fun _ i _ => n - (intOf i).toNat)
  case atStart => exact ⟨0, Nat.zero_le _, rfl, by simp, by simpa [mkB, vB] using HR0.out, World.grownBy.refl _ _⟩
  case round =>
    obtain ⟨k, hk, rfl, rfl, HL⟩ := hrel
    by_cases hlt : k < n
    · have hml : (vB (mkB k0 k)).length = k := by rw [vB_len, mkB_len]
      have hD := List.drop_eq_getElem_cons (show k < zs.length by omega)
      obtain ⟨g, rfl, hbg, ⟨cur, hcur⟩, hcell⟩ : ∃ g, a = some ⟨g, 0, none⟩ ∧ B ≤ g ∧ (∃ cur, wr.heap[g]? = some (.cells cur 5 (0, 0))) ∧ ∀ j v, (vB (mkB k0 k) ++ vB (zs.drop k))[j]? = some v → (hideZ wr B).cell? ⟨g, j, none⟩ = some v := by
        rcases row_cell HL.out.1 with h0 | h0
        · omega
        · exact h0
      have c0 : wr.cell? ⟨g, k, none⟩ = some (.int .u8 (zs[k]'(by omega))) := CLe.unhidz _ _ (hcell _ _ (by rw [List.getElem?_append_right (by omega), hml, hD]; simp [vB]))
      have f0 := frozen_of_row wr g k _ _ hcur
      have s1 := HL.out.1.stored k (.int .u8 ((k0 + k) % 256))
      have hw : IntKind.u8.wrap (k0 + k) = (k0 + k) % 256 := rfl
      have FQ : Hid (_ ∧ w.grownBy (wr.setCell ⟨g, k, none⟩ (.int .u8 ((k0 + k) % 256))) (Value.slice (some ⟨g, 0, none⟩) n c).ownBlock) := And.intro s1.1 (grown_trans HL.out.2 s1.2)
      have HE : Hid ((vB (mkB k0 k) ++ vB (zs.drop k)).set k (.int .u8 ((k0 + k) % 256)) = vB (mkB k0 (k + 1)) ++ vB (zs.drop (k + 1))) := by
        show _ = _
        rw [List.set_append_right _ _ (by omega), hml, hD, mkB, Nat.sub_self]
        show vB (mkB k0 k) ++ (Value.int .u8 ((k0 + k) % 256) :: vB (zs.drop (k + 1))) = _
        simp only [vB, List.map_append, List.map_cons, List.map_nil, List.append_assoc, List.cons_append, List.nil_append]
      obtain ⟨z0, hz0⟩ : ∃ z0, wr.cell? ⟨g, k, none⟩ = some (.int .u8 z0) := ⟨_, c0⟩
      clear hcell hcur s1 HL HR0 hD hml c0
      go_wp2
      go_roundw
      case rel => exact ⟨k + 1, by omega, by go_num, by go_num, row_eq FQ.out.1 HE.out, FQ.out.2⟩
      case measure => simp [intOf]; omega
    · obtain rfl : k = n := by omega
      go_wp2
      go_ret
      exact ⟨rfl, row_eq HL.out.1 (by rw [List.drop_eq_nil_of_le (by omega)]; simp [vB]), HL.out.2⟩

end Go.Proofs.YtaecnhmegdeicaaDoor.By
