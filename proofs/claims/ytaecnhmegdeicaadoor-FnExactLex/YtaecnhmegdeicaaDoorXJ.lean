/-
  impl.Lex. No statement is proved here.
-/
import Derived.Test.YtaecnhmegdeicaaDoorXI
namespace Go.Proofs.YtaecnhmegdeicaaDoor.By
open Go.RowKit
set_option linter.unusedVariables false
set_option linter.unusedSimpArgs false

def lexR : Nat → List Int → Nat → List RToken → List RToken × Int
  | 0, _, _, acc => (acc, -1)
  | f + 1, zs, k, acc => if zs.length ≤ k then (acc, -1) else if zs.getD k 0 = 32 ∨ zs.getD k 0 = 10 then lexR f zs (k + 1) acc else
    match firstV (zs.drop k) with
    | none => ([], (k : Int))
    | some (x, q) => lexR f zs (k + q) (acc ++ [⟨x.kind, k, x.n, x.text⟩])
/-- The tokens of a text, and the place of the first that is none. -/
def lexV (zs : List Int) : List RToken × Int := if 4000 < zs.length then ([], 0) else lexR (zs.length + 1) zs 0 []
theorem firstV_size {zs : List Int} {x : RToken} {q : Nat} (h : firstV zs = some (x, q)) (hl : 1 ≤ zs.length) : 1 ≤ q ∧ q ≤ zs.length ∧ x.pos = 0 := by
  unfold firstV at h
  split at h
  · cases h; exact ⟨by omega, by omega, rfl⟩
  split at h
  · cases h; exact ⟨by omega, by omega, rfl⟩
  split at h
  · unfold litT at h
    split at h
    · cases h
    · split at h
      · cases h
        have := qN_le (zs.drop 1)
        rw [List.length_drop] at *
        exact ⟨by omega, by omega, rfl⟩
      · cases h
  · cases hp : pieceV (zs.take (sepN zs)) with
    | none => rw [hp] at h; cases h
    | some y =>
      rw [hp] at h
      cases h
      have := sepN_le zs
      refine ⟨?_, by omega, ?_⟩
      · by_cases h0 : sepN zs = 0
        · rw [h0] at hp
          have e : pieceV ([] : List Int) = none := by decide
          rw [List.take_zero, e] at hp; cases hp
        · omega
      · unfold pieceV at hp
        split at hp
        · cases hp; rfl
        · split at hp
          · cases hp; rfl
          · cases hp

theorem grown_rowX {w u z : World} {t : TypeId} {s n : Nat} {v : Value} {zs : List Value} (g : w.grownBy u none) (ho : u.ownsRow w.heap.size t s v n zs) (h : u.grownBy z v.ownBlock) : w.grownBy z none :=
  ⟨h.os.trans g.os, h.tape.trans g.tape, h.output.trans g.output, Nat.le_trans g.size h.size, fun i hi _ => (h.block i (Nat.lt_of_lt_of_le hi g.size) (fun e => by
    rcases ho.2 with ⟨e1, -⟩ | ⟨g2, cap, cur2, e1, hle, -⟩
    · rw [e1] at e; cases e
    · rw [e1] at e
      have e3 : g2 = i := by simpa [Value.ownBlock, eq_comm] using e
      omega)).trans (g.block i hi (by simp))⟩

def LexI (w wr : World) (zs : List Int) (a : Option Addr) (l c : Nat) (k : Nat) : Prop := ∃ f acc vs, zs.length + 1 ≤ f + k ∧ lexV zs = lexR f zs k acc ∧ w.grownBy wr none ∧ wr.ownsRow w.heap.size 33 4 (.slice a l c) l vs ∧ TkO wr wr.heap.size acc vs w.heap.size ∧ l ≤ k

set_option maxRecDepth 8000 in
set_option maxHeartbeats 4000000 in
theorem implLexT (b o n c : Nat) (zs : List Int) (w : World) (hz0 : zs.length = n) (hby : Byt zs) (hcs : ∀ i, i < n → w.cell? ⟨b, o + i, none⟩ = some (.int .u8 (zs.getD i 0))) (hn : n ≤ 4000) (hlc : n ≤ c) (hE : EnvX w) :
    Calls Tryd.prog 6 #[.slice (some ⟨b, o, none⟩) n c] w fun e u => ∃ a' l' c' vs, e = .returned (.tuple #[.slice a' l' c', .int .i64 (lexV zs).2]) ∧ w.grownBy u none ∧ u.ownsRow w.heap.size 33 4 (.slice a' l' c') l' vs ∧ TkO u u.heap.size (lexV zs).1 vs w.heap.size := by
  have HH : Hid (zs.length = n ∧ Byt zs ∧ EnvX w ∧ ∀ u, w.grownBy u none → ∀ i, i < n → u.cell? ⟨b, o + i, none⟩ = some (.int .u8 (zs.getD i 0))) := ⟨hz0, hby, hE, fun u hu i hi => hu.cell (hcs i hi) (by simp)⟩
  have hn4 : ¬ (n : Int) > 4000 := by omega
  have L0 : Hid (LexI w w zs none 0 0 0) := ⟨zs.length + 1, [], [], by omega, by unfold lexV; rw [if_neg (by omega)], World.grownBy.refl _ _, ⟨rfl, .inl ⟨rfl, rfl⟩⟩, ⟨rfl, Nat.le_refl _⟩, Nat.le_refl _⟩
  clear hz0 hby hcs hE
  go_enter Tryd.func6, Tryd.ntmps6
  go_wp2_with fail
  go_loopw [4, 5] (fun ts i wr => ∃ (k l3 c3 : Nat) (a3 : Option Addr), k ≤ n ∧ i = .int .i64 k ∧ ts = .slice a3 l3 c3 ∧ Hid (LexI w wr zs a3 l3 c3 k)) (fun ts i _ => n - (intOf i).toNat)
  case atStart => exact ⟨0, 0, 0, none, Nat.zero_le _, rfl, rfl, L0.out⟩
  case round =>
    clear L0
    obtain ⟨k, l3, c3, a3, hk, rfl, rfl, HL⟩ := hrel
    by_cases hlt : k < n
    rotate_left
    · obtain ⟨f, acc, vs, h1, h2, h3, h4, h5, h6⟩ := HL.out
      have HV : Hid (lexV zs = (acc, -1)) := by
        show _ = _
        rw [h2]
        cases f with
        | zero => rfl
        | succ f => unfold lexR; rw [if_pos (by have := HH.out.1; omega)]
      have HF : Hid (w.grownBy wr none ∧ wr.ownsRow w.heap.size 33 4 (.slice a3 l3 c3) l3 vs ∧ TkO wr wr.heap.size acc vs w.heap.size) := ⟨h3, h4, h5⟩
      clear h1 h2 h3 h4 h5 HL
      go_wp2_with fail
      go_ret2
      exact ⟨a3, l3, c3, vs, by rw [HV.out]; rfl, HF.out.1, HF.out.2.1, by rw [HV.out]; exact HF.out.2.2⟩
    obtain ⟨z, hz⟩ : ∃ z, zs.getD k 0 = z := ⟨_, rfl⟩
    obtain ⟨f, acc, vs, h1, h2, h3, h4, h5, h6⟩ := HL.out
    obtain ⟨f, rfl⟩ : ∃ g, f = g + 1 := ⟨f - 1, by have := HH.out.1; omega⟩
    have HR : Hid (lexV zs = if z = 32 ∨ z = 10 then lexR f zs (k + 1) acc else match firstV (zs.drop k) with
      | none => ([], (k : Int))
      | some (x, q) => lexR f zs (k + q) (acc ++ [⟨x.kind, k, x.n, x.text⟩])) := by
      show _ = _
      rw [h2]
      conv => lhs; unfold lexR
      rw [if_neg (by have := HH.out.1; omega), hz]
    have HF : Hid (zs.length + 1 ≤ f + 1 + k ∧ w.grownBy wr none ∧ wr.ownsRow w.heap.size 33 4 (.slice a3 l3 c3) l3 vs ∧ TkO wr wr.heap.size acc vs w.heap.size ∧ l3 ≤ k) := ⟨h1, h3, h4, h5, h6⟩
    have hc : wr.cell? ⟨b, o + k, none⟩ = some (.int .u8 z) := by
      have := HH.out.2.2.2 wr h3 k hlt
      rw [hz] at this
      exact this
    clear h1 h2 h3 h4 h5 HL
    by_cases hsp : z = 32
    · have HV : Hid (lexV zs = lexR f zs (k + 1) acc) := by show _ = _; rw [HR.out, if_pos (.inl hsp)]
      subst hsp
      clear hz
      go_wp2_with fail
      go_roundw
      case rel => exact ⟨k + 1, l3, c3, a3, by omega, by go_num, rfl, f, acc, vs, by have := HF.out.1; omega, HV.out, HF.out.2.1, HF.out.2.2.1, HF.out.2.2.2.1, by have := HF.out.2.2.2.2; omega⟩
      case measure => simp [intOf]; omega
    by_cases hnl : z = 10
    · have HV : Hid (lexV zs = lexR f zs (k + 1) acc) := by show _ = _; rw [HR.out, if_pos (.inr hnl)]
      subst hnl
      clear hz
      go_wp2_with fail
      go_roundw
      case rel => exact ⟨k + 1, l3, c3, a3, by omega, by go_num, rfl, f, acc, vs, by have := HF.out.1; omega, HV.out, HF.out.2.1, HF.out.2.2.1, HF.out.2.2.2.1, by have := HF.out.2.2.2.2; omega⟩
      case measure => simp [intOf]; omega
    have CF : Hid _ := firstT b (o + k) (n - k) (c - k) (zs.drop k) wr (by rw [List.length_drop, HH.out.1]) (fun x hx => HH.out.2.1 x (List.mem_of_mem_drop hx)) (fun i hi => by
      rw [getD_drop, Nat.add_assoc]
      exact HH.out.2.2.2 wr HF.out.2.1 (k + i) (by omega)) (by omega) (by omega) (by omega) (HH.out.2.2.1.none HF.out.2.1)
    have HN : Hid (lexV zs = match firstV (zs.drop k) with
      | none => ([], (k : Int))
      | some (x, q) => lexR f zs (k + q) (acc ++ [⟨x.kind, k, x.n, x.text⟩])) := by show _ = _; rw [HR.out, if_neg (by omega)]
    have hs1 : (z == 32) = false := by simpa using hsp
    have hs2 : (z == 10) = false := by simpa using hnl
    clear hz HR
    go_wp2_with fail
    refine Calls.mono CF.out ?_
    rintro e u ⟨hg, hr⟩
    have hfs := fun x q h => firstV_size (zs := zs.drop k) (x := x) (q := q) h (by rw [List.length_drop, HH.out.1]; omega)
    rw [List.length_drop, HH.out.1] at hfs
    clear CF hc hsp hnl hs1 hs2
    rcases hr with ⟨h0, rfl⟩ | ⟨x, q, v, h0, rfl, a, l, cc, rfl, ho, hb, hl⟩
    · have HV : Hid (lexV zs = ([], (k : Int))) := by show _ = _; rw [HN.out, h0]
      have ga := World.grownBy_alloc u (.cells #[.int .i64 0, .int .i64 0, .int .i64 0, .slice none 0 0] 33) none
      have HG : Hid (w.grownBy (u.alloc (.cells #[.int .i64 0, .int .i64 0, .int .i64 0, .slice none 0 0] 33)) none) := grown_trans (grown_trans HF.out.2.1 hg) ga
      clear HF HN h0 ga hg hfs
      go_wp2_with fail
      go_ret2
      exact ⟨none, 0, 0, [], by rw [HV.out]; rfl, HG.out, ⟨rfl, .inl ⟨rfl, rfl⟩⟩, by rw [HV.out]; exact ⟨rfl, HG.out.size⟩⟩
    obtain ⟨hq1, hq2, hp0⟩ := hfs x q h0
    have HV : Hid (lexV zs = lexR f zs (k + q) (acc ++ [⟨x.kind, k, x.n, x.text⟩])) := by show _ = _; rw [HN.out, h0]
    have hq0 : ¬ (q : Int) = 0 := by omega
    have HU : Hid (wr.grownBy u none ∧ u.ownsRow wr.heap.size 5 1 (.slice a l cc) l (vB x.text) ∧ Byt x.text ∧ l ≤ 1048576) := ⟨hg, ho, hb, hl⟩
    clear hfs HN h0 hg ho hb hl
    obtain ⟨i0, hi, hy0, hy1, hy2⟩ := info_parts infoSToken
    have ga := World.grownBy_alloc u (.cells #[.int .i64 x.kind, .int .i64 (k : Int), .int .i64 x.n, .slice a l cc] 33) none
    have gb := World.grownBy_alloc (u.alloc (.cells #[.int .i64 x.kind, .int .i64 (k : Int), .int .i64 x.n, .slice a l cc] 33)) (.cells #[.int .i64 x.kind, .int .i64 (k : Int), .int .i64 x.n, .slice a l cc] 33) none
    have hb2 := heap_alloc_new (u.alloc (.cells #[.int .i64 x.kind, .int .i64 (k : Int), .int .i64 x.n, .slice a l cc] 33)) (.cells #[.int .i64 x.kind, .int .i64 (k : Int), .int .i64 x.n, .slice a l cc] 33)
    have hsz : (u.alloc (.cells #[.int .i64 x.kind, .int .i64 (k : Int), .int .i64 x.n, .slice a l cc] 33)).heap.size = u.heap.size + 1 := by simp
    rw [hsz] at hb2
    have G2 : Hid (u.grownBy ((u.alloc (.cells #[.int .i64 x.kind, .int .i64 (k : Int), .int .i64 x.n, .slice a l cc] 33)).alloc (.cells #[.int .i64 x.kind, .int .i64 (k : Int), .int .i64 x.n, .slice a l cc] 33)) none) := grown_trans ga gb
    have O1 : Hid _ := (HF.out.2.2.1.kept HU.out.1 (Classical.em _)).kept G2.out (Classical.em _)
    have HC : Hid (∀ j v, ([.int .i64 x.kind, .int .i64 (k : Int), .int .i64 x.n, .slice a l cc] : List Value)[j]? = some v → ((u.alloc (.cells #[.int .i64 x.kind, .int .i64 (k : Int), .int .i64 x.n, .slice a l cc] 33)).alloc (.cells #[.int .i64 x.kind, .int .i64 (k : Int), .int .i64 x.n, .slice a l cc] 33)).cell? ((⟨u.heap.size + 1, 0, none⟩ : Addr).add j) = some v) := fun j v hj => by
      rw [Go.WideShapes.add_plain, Nat.zero_add, cell_of_row _ _ _ _ _ (0, 0) hb2]
      simpa using hj
    have H1 : Hid (∀ v ∈ ([.int .i64 x.kind, .int .i64 (k : Int), .int .i64 x.n, .slice a l cc] : List Value), v.oneCell' = true) := fun v hv => by
      simp only [List.mem_cons, List.not_mem_nil, or_false] at hv
      rcases hv with rfl | rfl | rfl | rfl <;> rfl
    have hBB := Nat.le_trans (grown_trans HF.out.2.1 HU.out.1).size G2.out.size
    clear ga gb hb2 hsz
    go_wp2_with (at_builtin; go_must (refine wpList_append_own _ rfl (.tmp 41) (.tmp 43) 23 rfl w.heap.size 33 i0 _ 4 48 Tryd.underlying23 hi hy0 hy1 hy2 rfl (by decide) (.slice a3 l3 c3) l3 vs rfl O1.out ⟨u.heap.size + 1, 0, none⟩ 1 1 [.int .i64 x.kind, .int .i64 (k : Int), .int .i64 x.n, .slice a l cc] rfl rfl HC.out H1.out (by unfold maxLen; omega) (by omega) hBB ?_))
    intro v2 y2 ho2 hg2 _
    obtain ⟨a4, c4, rfl⟩ := own_sl ho2
    have HZ : Hid (LexI w y2 zs a4 (l3 + 1) c4 (k + q)) := by
      have hn : ∀ g, (Value.slice a3 l3 c3).ownBlock = some g → ∀ cur, ((u.alloc (.cells #[.int .i64 x.kind, .int .i64 (k : Int), .int .i64 x.n, .slice a l cc] 33)).alloc (.cells #[.int .i64 x.kind, .int .i64 (k : Int), .int .i64 x.n, .slice a l cc] 33)).heap[g]? ≠ some (.cells cur 5 (0, 0)) := fun g hg cur he => by
        rcases O1.out.2 with ⟨e1, -⟩ | ⟨g2, cap, cur2, e1, -, hb', -⟩
        · rw [e1] at hg; cases hg
        · rw [e1] at hg
          have e3 : g2 = g := by simpa [Value.ownBlock] using hg
          subst e3
          rw [he] at hb'
          cases hb'
      refine ⟨f, _, _, by have := HF.out.1; omega, HV.out, grown_rowX (grown_trans (grown_trans HF.out.2.1 HU.out.1) G2.out) O1.out hg2, ho2, TkO.app (((HF.out.2.2.2.1.none HU.out.1).none G2.out).kept hg2 hn) ?_, by have := HF.out.2.2.2.2; omega⟩
      have hr := (own_noneX HU.out.2.1 G2.out).kept hg2 (by
        rcases (own_noneX HU.out.2.1 G2.out).2 with ⟨e1, -⟩ | ⟨g2, cap, cur2, e1, -, hb', -⟩
        · left; rw [e1]; rfl
        · right; rw [e1]; intro e2; exact hn g2 e2.symm _ hb')
      refine ⟨a, l, cc, y2.heap.size, [], rfl, ⟨hr, HU.out.2.2.1, HU.out.2.2.2⟩, fun g hg => ?_, Nat.le_trans HU.out.1.size (Nat.le_trans G2.out.size hg2.size), rfl, Nat.le_refl _⟩
      rcases hr.2 with ⟨e1, -⟩ | ⟨g2, cap, cur2, e1, -, hb', -⟩
      · rw [e1] at hg; cases hg
      · rw [e1] at hg
        have e3 : g2 = g := by simpa [Value.ownBlock] using hg
        subst e3
        exact lt_of_block hb'
    clear HF HU G2 O1 HC H1 ho2 hg2 hBB HV
    go_wp2_with fail
    go_roundw
    case rel => exact ⟨k + q, l3 + 1, c4, a4, by omega, by go_num, rfl, HZ⟩
    case measure => simp [intOf]; omega
end Go.Proofs.YtaecnhmegdeicaaDoor.By
