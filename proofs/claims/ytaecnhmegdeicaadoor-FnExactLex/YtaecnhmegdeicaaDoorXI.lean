/-
  The first token: impl.firstToken. No statement is proved here.
-/
import Derived.Test.YtaecnhmegdeicaaDoorXH
namespace Go.Proofs.YtaecnhmegdeicaaDoor.By
open Go.RowKit
set_option linter.unusedVariables false
set_option linter.unusedSimpArgs false

/-- The token that a text begins with, and how many bytes it has. -/
def firstV (zs : List Int) : Option (RToken × Nat) :=
  if zs.getD 0 0 = 40 then some (⟨1, 0, 0, []⟩, 1)
  else if zs.getD 0 0 = 41 then some (⟨2, 0, 0, []⟩, 1)
  else if zs.getD 0 0 = 34 then litT (zs.drop 1)
  else (pieceV (zs.take (sepN zs))).map fun x => (x, sepN zs)

theorem own_noneX {z u : World} {B l : Nat} {a : Option Addr} {c : Nat} {vs : List Value} (h : z.ownsRow B 5 1 (.slice a l c) l vs) (kf : z.grownBy u none) : u.ownsRow B 5 1 (.slice a l c) l vs := by
  refine h.kept kf ?_
  rcases h.2 with ⟨e1, -⟩ | ⟨g, cap, cur, e1, -, hb', -⟩
  · left; rw [e1]; rfl
  · right; rw [e1]; intro e2; simp [Value.ownBlock] at e2


set_option maxRecDepth 8000 in
set_option maxHeartbeats 4000000 in
theorem firstT (b o l c : Nat) (zs : List Int) (w : World) (hz0 : zs.length = l) (hby : Byt zs) (hcs : ∀ i, i < l → w.cell? ⟨b, o + i, none⟩ = some (.int .u8 (zs.getD i 0))) (hl1 : 1 ≤ l) (hl : l ≤ 100000) (hlc : l ≤ c) (hE : EnvX w) :
    Calls Tryd.prog 17 #[.slice (some ⟨b, o, none⟩) l c] w fun e u => w.grownBy u none ∧ ((firstV zs = none ∧ e = .returned (.tuple #[.agg #[.int .i64 0, .int .i64 0, .int .i64 0, .slice none 0 0], .int .i64 0])) ∨ ∃ x q v, firstV zs = some (x, q) ∧ e = .returned (.tuple #[v, .int .i64 q]) ∧ TokR u w.heap.size v x) := by
  have g0 := World.grownBy_alloc w (.cells #[.int .i64 0, .int .i64 0, .int .i64 0, .slice none 0 0] 33) none
  have b0 := heap_alloc_new w (.cells #[.int .i64 0, .int .i64 0, .int .i64 0, .slice none 0 0] 33)
  have HG : Hid (w.grownBy (w.alloc (.cells #[.int .i64 0, .int .i64 0, .int .i64 0, .slice none 0 0] 33)) none ∧ (w.alloc (.cells #[.int .i64 0, .int .i64 0, .int .i64 0, .slice none 0 0] 33)).heap[w.heap.size]? = some (Obj.cells #[.int .i64 0, .int .i64 0, .int .i64 0, .slice none 0 0] 33 (0, 0))) := ⟨g0, b0⟩
  have HH : Hid (zs.length = l ∧ Byt zs ∧ EnvX w ∧ ∀ u, w.grownBy u none → ∀ i, i < l → u.cell? ⟨b, o + i, none⟩ = some (.int .u8 (zs.getD i 0))) := ⟨hz0, hby, hE, fun u hu i hi => hu.cell (hcs i hi) (by simp)⟩
  have HS : Hid (w.heap.size ≤ w.heap.size) := Nat.le_refl _
  have hc0 : (w.alloc (.cells #[.int .i64 0, .int .i64 0, .int .i64 0, .slice none 0 0] 33)).cell? ⟨b, o, none⟩ = some (.int .u8 (zs.getD 0 0)) := g0.cell (hcs 0 (by omega)) (by simp)
  clear g0 b0 hz0 hby hcs hE
  obtain ⟨z, hz⟩ : ∃ z, zs.getD 0 0 = z := ⟨_, rfl⟩
  rw [hz] at hc0
  go_enter Tryd.func17, Tryd.ntmps17
  by_cases h40 : z = 40
  · have HP : Hid (firstV zs = some (⟨1, 0, 0, []⟩, 1)) := by show _ = _; unfold firstV; rw [hz, if_pos h40]
    subst h40
    clear hz
    have FQ : Hid ((w.alloc (.cells #[.int .i64 1, .int .i64 0, .int .i64 0, .slice none 0 0] 33)).heap[w.heap.size]? = some (Obj.cells #[.int .i64 1, .int .i64 0, .int .i64 0, .slice none 0 0] 33 (0, 0)) ∧ w.grownBy (w.alloc (.cells #[.int .i64 1, .int .i64 0, .int .i64 0, .slice none 0 0] 33)) none) := ⟨heap_alloc_new w _, World.grownBy_alloc w _ _⟩
    clear HG HH
    go_wp2_with fail
    (try simp only [Exit.inBlock, Exit.then])
    refine bodyPost_ret (results_cellU (P := Tryd.prog) Tryd.results17 _ _ _ _ _ _ _ rfl FQ.out.1 Tryd.underlying33 rfl (by kernel_rfl)) rfl ?_
    exact ⟨FQ.out.2, .inr ⟨_, _, _, HP.out, rfl, none, 0, 0, rfl, ⟨rfl, .inl ⟨rfl, rfl⟩⟩, (fun z hz => by simp at hz), by omega⟩⟩
  by_cases h41 : z = 41
  · have HP : Hid (firstV zs = some (⟨2, 0, 0, []⟩, 1)) := by show _ = _; unfold firstV; rw [hz, if_neg h40, if_pos h41]
    subst h41
    clear hz
    have FQ : Hid ((w.alloc (.cells #[.int .i64 2, .int .i64 0, .int .i64 0, .slice none 0 0] 33)).heap[w.heap.size]? = some (Obj.cells #[.int .i64 2, .int .i64 0, .int .i64 0, .slice none 0 0] 33 (0, 0)) ∧ w.grownBy (w.alloc (.cells #[.int .i64 2, .int .i64 0, .int .i64 0, .slice none 0 0] 33)) none) := ⟨heap_alloc_new w _, World.grownBy_alloc w _ _⟩
    clear HG HH
    go_wp2_with fail
    (try simp only [Exit.inBlock, Exit.then])
    refine bodyPost_ret (results_cellU (P := Tryd.prog) Tryd.results17 _ _ _ _ _ _ _ rfl FQ.out.1 Tryd.underlying33 rfl (by kernel_rfl)) rfl ?_
    exact ⟨FQ.out.2, .inr ⟨_, _, _, HP.out, rfl, none, 0, 0, rfl, ⟨rfl, .inl ⟨rfl, rfl⟩⟩, (fun z hz => by simp at hz), by omega⟩⟩
  by_cases h34 : z = 34
  · have HP : Hid (firstV zs = litT (zs.drop 1)) := by show _ = _; unfold firstV; rw [hz, if_neg h40, if_neg h41, if_pos h34]
    subst h34
    clear hz h40 h41
    by_cases hc1 : c = 1
    · have hl2 : l = 1 := by omega
      subst hc1 hl2
      have CL : Hid _ := literalT b o 0 0 (zs.drop 1) (w.alloc (.cells #[.int .i64 0, .int .i64 0, .int .i64 0, .slice none 0 0] 33)) (by rw [List.length_drop, HH.out.1]) (fun x hx => HH.out.2.1 x (List.mem_of_mem_drop hx)) (fun i hi => by omega) (by omega) (by omega)
      go_wp2_with fail
      refine Calls.mono CL.out ?_
      rintro e u ⟨hg, hr⟩
      have HG2 : Hid (w.grownBy u none ∧ u.heap[w.heap.size]? = some (Obj.cells #[.int .i64 0, .int .i64 0, .int .i64 0, .slice none 0 0] 33 (0, 0))) := ⟨grown_trans HG.out.1 hg, (hg.block _ (lt_of_block HG.out.2) (by simp)).trans HG.out.2⟩
      have HS1 : Hid (w.heap.size ≤ (w.alloc (.cells #[.int .i64 0, .int .i64 0, .int .i64 0, .slice none 0 0] 33)).heap.size) := HG.out.1.size
      clear CL hg HG
      rcases hr with ⟨h0, rfl⟩ | ⟨x, q, v, h0, rfl, a, n, k, rfl, ho, hb, hn⟩
      · have HP2 : Hid (firstV zs = none) := HP.out.trans h0
        clear h0 HP
        obtain ⟨⟨y0, y1, y2, y3⟩, hfz⟩ := blkToken HG2.out.2
        have fz0 := hfz 0
        have fz1 := hfz 1
        have fz2 := hfz 2
        have fz3 := hfz 3
        obtain ⟨mf, kf⟩ := fillToken (.int .i64 0) (.int .i64 0) (.int .i64 0) (.slice none 0 0) HG2.out.2
        have FQ : Hid _ := And.intro mf (And.intro (grown_into HG2.out.1 kf HS.out) kf)
        clear mf kf hfz
        go_wp2_with fail
        (try simp only [Exit.inBlock, Exit.then])
        refine bodyPost_ret (results_cellU (P := Tryd.prog) Tryd.results17 _ _ _ _ _ _ _ rfl FQ.out.1 Tryd.underlying33 rfl (by kernel_rfl)) rfl ?_
        exact ⟨FQ.out.2.1, .inl ⟨HP2.out, rfl⟩⟩
      · have HP2 : Hid (firstV zs = some (x, q)) := HP.out.trans h0
        have HO : Hid (u.ownsRow w.heap.size 5 1 (.slice a n k) n (vB x.text) ∧ Byt x.text ∧ n ≤ 1048576) := ⟨Go.Joins.ownsRow_le ho HS1.out, hb, hn⟩
        clear h0 HP ho hb hn
        obtain ⟨⟨y0, y1, y2, y3⟩, hfz⟩ := blkToken HG2.out.2
        have fz0 := hfz 0
        have fz1 := hfz 1
        have fz2 := hfz 2
        have fz3 := hfz 3
        obtain ⟨mf, kf⟩ := fillToken (.int .i64 x.kind) (.int .i64 x.pos) (.int .i64 x.n) (.slice a n k) HG2.out.2
        have FQ : Hid _ := And.intro mf (And.intro (grown_into HG2.out.1 kf HS.out) kf)
        clear mf kf hfz
        go_wp2_with fail
        (try simp only [Exit.inBlock, Exit.then])
        refine bodyPost_ret (results_cellU (P := Tryd.prog) Tryd.results17 _ _ _ _ _ _ _ rfl FQ.out.1 Tryd.underlying33 rfl (by kernel_rfl)) rfl ?_
        exact ⟨FQ.out.2.1, .inr ⟨_, _, _, HP2.out, rfl, a, n, k, rfl, own_keptX HO.out.1 FQ.out.2.2 HG2.out.2 (by decide), HO.out.2.1, HO.out.2.2⟩⟩
    · have CL : Hid _ := literalT b (o + 1) (l - 1) (c - 1) (zs.drop 1) (w.alloc (.cells #[.int .i64 0, .int .i64 0, .int .i64 0, .slice none 0 0] 33)) (by rw [List.length_drop, HH.out.1]) (fun x hx => HH.out.2.1 x (List.mem_of_mem_drop hx)) (fun i hi => by
        rw [getD_drop, Nat.add_assoc]
        exact HH.out.2.2.2 _ HG.out.1 (1 + i) (by omega)) (by omega) (by omega)
      go_wp2_with fail
      refine Calls.mono CL.out ?_
      rintro e u ⟨hg, hr⟩
      have HG2 : Hid (w.grownBy u none ∧ u.heap[w.heap.size]? = some (Obj.cells #[.int .i64 0, .int .i64 0, .int .i64 0, .slice none 0 0] 33 (0, 0))) := ⟨grown_trans HG.out.1 hg, (hg.block _ (lt_of_block HG.out.2) (by simp)).trans HG.out.2⟩
      have HS1 : Hid (w.heap.size ≤ (w.alloc (.cells #[.int .i64 0, .int .i64 0, .int .i64 0, .slice none 0 0] 33)).heap.size) := HG.out.1.size
      clear CL hg HG
      rcases hr with ⟨h0, rfl⟩ | ⟨x, q, v, h0, rfl, a, n, k, rfl, ho, hb, hn⟩
      · have HP2 : Hid (firstV zs = none) := HP.out.trans h0
        clear h0 HP
        obtain ⟨⟨y0, y1, y2, y3⟩, hfz⟩ := blkToken HG2.out.2
        have fz0 := hfz 0
        have fz1 := hfz 1
        have fz2 := hfz 2
        have fz3 := hfz 3
        obtain ⟨mf, kf⟩ := fillToken (.int .i64 0) (.int .i64 0) (.int .i64 0) (.slice none 0 0) HG2.out.2
        have FQ : Hid _ := And.intro mf (And.intro (grown_into HG2.out.1 kf HS.out) kf)
        clear mf kf hfz
        go_wp2_with fail
        (try simp only [Exit.inBlock, Exit.then])
        refine bodyPost_ret (results_cellU (P := Tryd.prog) Tryd.results17 _ _ _ _ _ _ _ rfl FQ.out.1 Tryd.underlying33 rfl (by kernel_rfl)) rfl ?_
        exact ⟨FQ.out.2.1, .inl ⟨HP2.out, rfl⟩⟩
      · have HP2 : Hid (firstV zs = some (x, q)) := HP.out.trans h0
        have HO : Hid (u.ownsRow w.heap.size 5 1 (.slice a n k) n (vB x.text) ∧ Byt x.text ∧ n ≤ 1048576) := ⟨Go.Joins.ownsRow_le ho HS1.out, hb, hn⟩
        clear h0 HP ho hb hn
        obtain ⟨⟨y0, y1, y2, y3⟩, hfz⟩ := blkToken HG2.out.2
        have fz0 := hfz 0
        have fz1 := hfz 1
        have fz2 := hfz 2
        have fz3 := hfz 3
        obtain ⟨mf, kf⟩ := fillToken (.int .i64 x.kind) (.int .i64 x.pos) (.int .i64 x.n) (.slice a n k) HG2.out.2
        have FQ : Hid _ := And.intro mf (And.intro (grown_into HG2.out.1 kf HS.out) kf)
        clear mf kf hfz
        go_wp2_with fail
        (try simp only [Exit.inBlock, Exit.then])
        refine bodyPost_ret (results_cellU (P := Tryd.prog) Tryd.results17 _ _ _ _ _ _ _ rfl FQ.out.1 Tryd.underlying33 rfl (by kernel_rfl)) rfl ?_
        exact ⟨FQ.out.2.1, .inr ⟨_, _, _, HP2.out, rfl, a, n, k, rfl, own_keptX HO.out.1 FQ.out.2.2 HG2.out.2 (by decide), HO.out.2.1, HO.out.2.2⟩⟩
  have HP : Hid (firstV zs = (pieceV (zs.take (sepN zs))).map fun x => (x, sepN zs)) := by show _ = _; unfold firstV; rw [hz, if_neg h40, if_neg h41, if_neg h34]
  have CA : Hid _ := ixanyT b o l c zs (w.alloc (.cells #[.int .i64 0, .int .i64 0, .int .i64 0, .slice none 0 0] 33)) HH.out.1 hl1 hl hlc HH.out.2.1 (HH.out.2.2.2 _ HG.out.1) (HH.out.2.2.1.none HG.out.1).tu
  have HSS : Hid (sepS = { data := #[32, 10, 40, 41, 34] }) := rfl
  rw [HSS.out] at CA
  clear hz
  go_wp2_with fail
  refine Calls.mono CA.out ?_
  rintro e u ⟨rfl, hg⟩
  have HG2 : Hid (w.grownBy u none ∧ u.heap[w.heap.size]? = some (Obj.cells #[.int .i64 0, .int .i64 0, .int .i64 0, .slice none 0 0] 33 (0, 0))) := ⟨grown_trans HG.out.1 hg, (hg.block _ (lt_of_block HG.out.2) (by simp)).trans HG.out.2⟩
  clear CA hg HG HSS hc0 h40 h41 h34
  have hsl := sepN_le zs
  rw [HH.out.1] at hsl
  have hav : anyV zs = if sepN zs = l then -1 else (sepN zs : Int) := by unfold anyV; rw [HH.out.1]
  obtain ⟨s, hs⟩ : ∃ s, sepN zs = s := ⟨_, rfl⟩
  have HSV : Hid (sepN zs = s) := hs
  rw [hs] at hav hsl
  have hlen : (zs.take s).length = s := by rw [List.length_take, HH.out.1]; omega
  have hcl : ∀ i, i < s → u.cell? ⟨b, o + i, none⟩ = some (.int .u8 ((zs.take s).getD i 0)) := fun i hi => by
    rw [List.getD_eq_getElem?_getD, List.getElem?_take_of_lt hi, ← List.getD_eq_getElem?_getD]
    exact HH.out.2.2.2 _ HG2.out.1 i (by omega)
  have CP : Hid _ := pieceT b o s c (zs.take s) u ⟨⟨hlen, .inr ⟨b, o, rfl, hcl⟩⟩, fun x hx => HH.out.2.1 x (List.mem_of_mem_take hx), by omega⟩ hcl (by omega) (HH.out.2.2.1.none HG2.out.1)
  clear hs hlen hcl
  by_cases hq : s = l
  · rw [if_pos hq] at hav
    rw [hav]
    clear hav
    subst hq
    go_wp2_with fail
    refine Calls.mono CP.out ?_
    rintro e u3 ⟨hg3, hr⟩
    have HG3 : Hid (w.grownBy u3 none ∧ u3.heap[w.heap.size]? = some (Obj.cells #[.int .i64 0, .int .i64 0, .int .i64 0, .slice none 0 0] 33 (0, 0))) := ⟨grown_trans HG2.out.1 hg3, (hg3.block _ (lt_of_block HG2.out.2) (by simp)).trans HG2.out.2⟩
    have HS1 : Hid (w.heap.size ≤ u.heap.size) := HG2.out.1.size
    clear CP hg3
    rcases hr with ⟨h0, rfl⟩ | ⟨x, v, h0, rfl, a, n, k, rfl, ho, hb, hn⟩
    · have HP2 : Hid (firstV zs = none) := by show _ = _; rw [HP.out, HSV.out, h0]; rfl
      have ga := World.grownBy_alloc u3 (.cells #[.int .i64 0, .int .i64 0, .int .i64 0, .slice none 0 0] 33) none
      have HG4 : Hid (w.grownBy (u3.alloc (.cells #[.int .i64 0, .int .i64 0, .int .i64 0, .slice none 0 0] 33)) none ∧ (u3.alloc (.cells #[.int .i64 0, .int .i64 0, .int .i64 0, .slice none 0 0] 33)).heap[w.heap.size]? = some (Obj.cells #[.int .i64 0, .int .i64 0, .int .i64 0, .slice none 0 0] 33 (0, 0))) := ⟨grown_trans HG3.out.1 ga, (ga.block _ (lt_of_block HG3.out.2) (by simp)).trans HG3.out.2⟩
      clear h0 HP ga HG3
      obtain ⟨⟨y0, y1, y2, y3⟩, hfz⟩ := blkToken HG4.out.2
      have fz0 := hfz 0
      have fz1 := hfz 1
      have fz2 := hfz 2
      have fz3 := hfz 3
      obtain ⟨mf, kf⟩ := fillToken (.int .i64 0) (.int .i64 0) (.int .i64 0) (.slice none 0 0) HG4.out.2
      have FQ : Hid _ := And.intro mf (And.intro (grown_into HG4.out.1 kf HS.out) kf)
      clear mf kf hfz
      go_wp2_with fail
      (try simp only [Exit.inBlock, Exit.then])
      refine bodyPost_ret (results_cellU (P := Tryd.prog) Tryd.results17 _ _ _ _ _ _ _ rfl FQ.out.1 Tryd.underlying33 rfl (by kernel_rfl)) rfl ?_
      exact ⟨FQ.out.2.1, .inl ⟨HP2.out, rfl⟩⟩
    · have HP2 : Hid (firstV zs = some (x, s)) := by show _ = _; rw [HP.out, HSV.out, h0]; rfl
      have ga := World.grownBy_alloc u3 (.cells #[.int .i64 x.kind, .int .i64 x.pos, .int .i64 x.n, .slice a n k] 33) none
      have HG4 : Hid (w.grownBy (u3.alloc (.cells #[.int .i64 x.kind, .int .i64 x.pos, .int .i64 x.n, .slice a n k] 33)) none ∧ (u3.alloc (.cells #[.int .i64 x.kind, .int .i64 x.pos, .int .i64 x.n, .slice a n k] 33)).heap[w.heap.size]? = some (Obj.cells #[.int .i64 0, .int .i64 0, .int .i64 0, .slice none 0 0] 33 (0, 0))) := ⟨grown_trans HG3.out.1 ga, (ga.block _ (lt_of_block HG3.out.2) (by simp)).trans HG3.out.2⟩
      have HO : Hid ((u3.alloc (.cells #[.int .i64 x.kind, .int .i64 x.pos, .int .i64 x.n, .slice a n k] 33)).ownsRow w.heap.size 5 1 (.slice a n k) n (vB x.text) ∧ Byt x.text ∧ n ≤ 1048576) := ⟨own_noneX (Go.Joins.ownsRow_le ho HS1.out) ga, hb, hn⟩
      clear h0 HP ho hb hn ga HG3
      obtain ⟨⟨y0, y1, y2, y3⟩, hfz⟩ := blkToken HG4.out.2
      have fz0 := hfz 0
      have fz1 := hfz 1
      have fz2 := hfz 2
      have fz3 := hfz 3
      obtain ⟨mf, kf⟩ := fillToken (.int .i64 x.kind) (.int .i64 x.pos) (.int .i64 x.n) (.slice a n k) HG4.out.2
      have FQ : Hid _ := And.intro mf (And.intro (grown_into HG4.out.1 kf HS.out) kf)
      clear mf kf hfz
      go_wp2_with fail
      (try simp only [Exit.inBlock, Exit.then])
      refine bodyPost_ret (results_cellU (P := Tryd.prog) Tryd.results17 _ _ _ _ _ _ _ rfl FQ.out.1 Tryd.underlying33 rfl (by kernel_rfl)) rfl ?_
      exact ⟨FQ.out.2.1, .inr ⟨_, _, _, HP2.out, rfl, a, n, k, rfl, own_keptX HO.out.1 FQ.out.2.2 HG4.out.2 (by decide), HO.out.2.1, HO.out.2.2⟩⟩
  · rw [if_neg hq] at hav
    rw [hav]
    have hs0 : ¬ (s : Int) < 0 := by omega
    clear hav
    go_wp2_with fail
    refine Calls.mono CP.out ?_
    rintro e u3 ⟨hg3, hr⟩
    have HG3 : Hid (w.grownBy u3 none ∧ u3.heap[w.heap.size]? = some (Obj.cells #[.int .i64 0, .int .i64 0, .int .i64 0, .slice none 0 0] 33 (0, 0))) := ⟨grown_trans HG2.out.1 hg3, (hg3.block _ (lt_of_block HG2.out.2) (by simp)).trans HG2.out.2⟩
    have HS1 : Hid (w.heap.size ≤ u.heap.size) := HG2.out.1.size
    clear CP hg3
    rcases hr with ⟨h0, rfl⟩ | ⟨x, v, h0, rfl, a, n, k, rfl, ho, hb, hn⟩
    · have HP2 : Hid (firstV zs = none) := by show _ = _; rw [HP.out, HSV.out, h0]; rfl
      have ga := World.grownBy_alloc u3 (.cells #[.int .i64 0, .int .i64 0, .int .i64 0, .slice none 0 0] 33) none
      have HG4 : Hid (w.grownBy (u3.alloc (.cells #[.int .i64 0, .int .i64 0, .int .i64 0, .slice none 0 0] 33)) none ∧ (u3.alloc (.cells #[.int .i64 0, .int .i64 0, .int .i64 0, .slice none 0 0] 33)).heap[w.heap.size]? = some (Obj.cells #[.int .i64 0, .int .i64 0, .int .i64 0, .slice none 0 0] 33 (0, 0))) := ⟨grown_trans HG3.out.1 ga, (ga.block _ (lt_of_block HG3.out.2) (by simp)).trans HG3.out.2⟩
      clear h0 HP ga HG3
      obtain ⟨⟨y0, y1, y2, y3⟩, hfz⟩ := blkToken HG4.out.2
      have fz0 := hfz 0
      have fz1 := hfz 1
      have fz2 := hfz 2
      have fz3 := hfz 3
      obtain ⟨mf, kf⟩ := fillToken (.int .i64 0) (.int .i64 0) (.int .i64 0) (.slice none 0 0) HG4.out.2
      have FQ : Hid _ := And.intro mf (And.intro (grown_into HG4.out.1 kf HS.out) kf)
      clear mf kf hfz
      go_wp2_with fail
      (try simp only [Exit.inBlock, Exit.then])
      refine bodyPost_ret (results_cellU (P := Tryd.prog) Tryd.results17 _ _ _ _ _ _ _ rfl FQ.out.1 Tryd.underlying33 rfl (by kernel_rfl)) rfl ?_
      exact ⟨FQ.out.2.1, .inl ⟨HP2.out, rfl⟩⟩
    · have HP2 : Hid (firstV zs = some (x, s)) := by show _ = _; rw [HP.out, HSV.out, h0]; rfl
      have ga := World.grownBy_alloc u3 (.cells #[.int .i64 x.kind, .int .i64 x.pos, .int .i64 x.n, .slice a n k] 33) none
      have HG4 : Hid (w.grownBy (u3.alloc (.cells #[.int .i64 x.kind, .int .i64 x.pos, .int .i64 x.n, .slice a n k] 33)) none ∧ (u3.alloc (.cells #[.int .i64 x.kind, .int .i64 x.pos, .int .i64 x.n, .slice a n k] 33)).heap[w.heap.size]? = some (Obj.cells #[.int .i64 0, .int .i64 0, .int .i64 0, .slice none 0 0] 33 (0, 0))) := ⟨grown_trans HG3.out.1 ga, (ga.block _ (lt_of_block HG3.out.2) (by simp)).trans HG3.out.2⟩
      have HO : Hid ((u3.alloc (.cells #[.int .i64 x.kind, .int .i64 x.pos, .int .i64 x.n, .slice a n k] 33)).ownsRow w.heap.size 5 1 (.slice a n k) n (vB x.text) ∧ Byt x.text ∧ n ≤ 1048576) := ⟨own_noneX (Go.Joins.ownsRow_le ho HS1.out) ga, hb, hn⟩
      clear h0 HP ho hb hn ga HG3
      obtain ⟨⟨y0, y1, y2, y3⟩, hfz⟩ := blkToken HG4.out.2
      have fz0 := hfz 0
      have fz1 := hfz 1
      have fz2 := hfz 2
      have fz3 := hfz 3
      obtain ⟨mf, kf⟩ := fillToken (.int .i64 x.kind) (.int .i64 x.pos) (.int .i64 x.n) (.slice a n k) HG4.out.2
      have FQ : Hid _ := And.intro mf (And.intro (grown_into HG4.out.1 kf HS.out) kf)
      clear mf kf hfz
      go_wp2_with fail
      (try simp only [Exit.inBlock, Exit.then])
      refine bodyPost_ret (results_cellU (P := Tryd.prog) Tryd.results17 _ _ _ _ _ _ _ rfl FQ.out.1 Tryd.underlying33 rfl (by kernel_rfl)) rfl ?_
      exact ⟨FQ.out.2.1, .inr ⟨_, _, _, HP2.out, rfl, a, n, k, rfl, own_keptX HO.out.1 FQ.out.2.2 HG4.out.2 (by decide), HO.out.2.1, HO.out.2.2⟩⟩
end Go.Proofs.YtaecnhmegdeicaaDoor.By
