/-
  Lex over any text; how many tokens there are. No statement is proved here.
-/
import Derived.Test.YtaecnhmegdeicaaDoorXO
import Derived.Test.YtaecnhmegdeicaaDoorXTh
namespace Go.Proofs.YtaecnhmegdeicaaDoor.By
open Go.RowKit
set_option linter.unusedVariables false
set_option linter.unusedSimpArgs false

theorem lexV_big {zs : List Int} (h : 4000 < zs.length) : lexV zs = ([], 0) := by unfold lexV; rw [if_pos h]
set_option maxRecDepth 8000 in
theorem implLexA (b o n c : Nat) (zs : List Int) (w : World) (hz0 : zs.length = n) (hby : Byt zs) (hcs : ∀ i, i < n → w.cell? ⟨b, o + i, none⟩ = some (.int .u8 (zs.getD i 0))) (hlc : n ≤ c) (hE : EnvX w) :
    Calls Tryd.prog 6 #[.slice (some ⟨b, o, none⟩) n c] w fun e u => ∃ a' l' c' vs, e = .returned (.tuple #[.slice a' l' c', .int .i64 (lexV zs).2]) ∧ w.grownBy u none ∧ u.ownsRow w.heap.size 33 4 (.slice a' l' c') l' vs ∧ TkO u u.heap.size (lexV zs).1 vs w.heap.size := by
  by_cases hn : n ≤ 4000
  · exact implLexT b o n c zs w hz0 hby hcs hn hlc hE
  have HV : Hid (lexV zs = ([], 0)) := lexV_big (by omega)
  have hn4 : (n : Int) > 4000 := by omega
  clear hz0 hby hcs hE hlc
  go_enter Tryd.func6, Tryd.ntmps6
  go_wp2_with fail
  go_ret2
  exact ⟨none, 0, 0, [], by rw [HV.out]; rfl, World.grownBy.refl _ _, ⟨rfl, .inl ⟨rfl, rfl⟩⟩, by rw [HV.out]; exact ⟨rfl, Nat.le_refl _⟩⟩
set_option maxRecDepth 8000 in
theorem specLexA (b o n c : Nat) (zs : List Int) (w : World) (hz0 : zs.length = n) (hby : Byt zs) (hcs : ∀ i, i < n → w.cell? ⟨b, o + i, none⟩ = some (.int .u8 (zs.getD i 0))) (hlc : n ≤ c) (hE : EnvX w) :
    Calls Tryd.prog 4 #[.slice (some ⟨b, o, none⟩) n c] w fun e u => ∃ a' l' c' vs, e = .returned (.tuple #[.slice a' l' c', .int .i64 (lexV zs).2]) ∧ w.grownBy u none ∧ u.ownsRow w.heap.size 33 4 (.slice a' l' c') l' vs ∧ TkO u u.heap.size (lexV zs).1 vs w.heap.size := by
  by_cases hn : n ≤ 4000
  · exact specLexT b o n c zs w hz0 hby hcs hn hlc hE
  have HV : Hid (lexV zs = ([], 0)) := lexV_big (by omega)
  have hn4 : (n : Int) > 4000 := by omega
  clear hz0 hby hcs hE hlc
  go_enter Tryd.func4, Tryd.ntmps4
  go_wp2_with fail
  go_ret2
  exact ⟨none, 0, 0, [], by rw [HV.out]; rfl, World.grownBy.refl _ _, ⟨rfl, .inl ⟨rfl, rfl⟩⟩, by rw [HV.out]; exact ⟨rfl, Nat.le_refl _⟩⟩

theorem firstV_text {zs : List Int} {x : RToken} {q : Nat} (h : firstV zs = some (x, q)) : x.text.length ≤ q := by
  unfold firstV at h
  split at h
  · cases h; simp
  split at h
  · cases h; simp
  split at h
  · unfold litT at h
    split at h
    · cases h
    · split at h
      · cases h
        simp only [List.length_take]
        omega
      · cases h
  · cases hp : pieceV (zs.take (sepN zs)) with
    | none => rw [hp] at h; cases h
    | some y =>
      rw [hp] at h
      cases h
      unfold pieceV at hp
      split at hp
      · cases hp; simp
      · split at hp
        · cases hp; simp only [List.length_take]; omega
        · cases hp
theorem lexR_tkn : ∀ (f : Nat) (zs : List Int) (k : Nat) (acc : List RToken), k ≤ zs.length → tkn (lexR f zs k acc).1 ≤ tkn acc + 4 * (zs.length - k)
  | 0, _, _, acc, _ => by simp only [lexR]; omega
  | f + 1, zs, k, acc, hk => by
    unfold lexR
    split
    · simp only []; omega
    split
    · have := lexR_tkn f zs (k + 1) acc (by omega)
      omega
    cases hf : firstV (zs.drop k) with
    | none => simp [tkn]
    | some p =>
      obtain ⟨x, q⟩ := p
      have h1 := firstV_size hf (by rw [List.length_drop]; omega)
      have h2 := firstV_text hf
      rw [List.length_drop] at h1
      have := lexR_tkn f zs (k + q) (acc ++ [⟨x.kind, k, x.n, x.text⟩]) (by omega)
      rw [tkn_app] at this
      simp only [tkn] at this
      simp only []
      omega
theorem lexV_tkn (zs : List Int) : tkn (lexV zs).1 ≤ 16000 := by
  unfold lexV
  split
  · simp [tkn]
  · have := lexR_tkn (zs.length + 1) zs 0 [] (Nat.zero_le _)
    simp only [tkn] at this
    omega
theorem sz_tkn : ∀ xs : List RToken, szTokens xs ≤ tkn xs
  | [] => Nat.le_refl _
  | x :: r => by have := sz_tkn r; unfold szTokens tkn szToken; omega
theorem txt_tkn : ∀ (xs : List RToken) (y : RToken), y ∈ xs → y.text.length ≤ tkn xs
  | x :: r, y, h => by
    unfold tkn
    rcases List.mem_cons.1 h with rfl | h
    · omega
    · have := txt_tkn r y h; omega
/-- What lies below turns nothing of our own there. -/
theorem own_bel {B B1 : Nat} {u z : World} (h : Below B u z) {t : TypeId} {s n : Nat} {v : Value} {vs : List Value} (ho : u.ownsRow B1 t s v n vs) (hb : ∀ g, v.ownBlock = some g → g < B) : z.ownsRow B1 t s v n vs := by
  refine ⟨ho.1, ?_⟩
  rcases ho.2 with h0 | ⟨g, cap, cur, e, h1, h2, h3⟩
  · exact .inl h0
  · refine .inr ⟨g, cap, cur, e, h1, ?_, h3⟩
    rw [h.block g (hb g (by rw [e]; rfl))]; exact h2
theorem TkO.bel {B : Nat} {u z : World} (h : Below B u z) {hi : Nat} (hB : hi ≤ B) : ∀ {xs : List RToken} {vs : List Value} {lo : Nat}, TkO u hi xs vs lo → TkO z hi xs vs lo
  | [], _, _, k => k
  | x :: r, _, _, ⟨a, l, c, mid, vs', e, ⟨ho, hb, hl⟩, hm, hlm, hr⟩ => by
    have hmh : ∀ {xs : List RToken} {vs : List Value} {lo : Nat}, TkO u hi xs vs lo → lo ≤ hi := fun {xs} => by
      induction xs with
      | nil => exact fun k => k.2
      | cons y r ih => exact fun ⟨_, _, _, _, _, _, _, _, h1, h2⟩ => Nat.le_trans h1 (ih h2)
    exact ⟨a, l, c, mid, vs', e, ⟨own_bel h ho (fun g hg => by have := hm g hg; have := hmh hr; omega), hb, hl⟩, hm, hlm, TkO.bel h hB hr⟩
theorem own_lt {u : World} {B1 : Nat} {t : TypeId} {s n : Nat} {v : Value} {vs : List Value} (ho : u.ownsRow B1 t s v n vs) {g : Nat} (hg : v.ownBlock = some g) : g < u.heap.size := by
  rcases ho.2 with ⟨e, -⟩ | ⟨g2, cap, cur, e, h1, h2, h3⟩
  · rw [e] at hg; cases hg
  · rw [e] at hg
    have e3 : g2 = g := by simpa [Value.ownBlock] using hg
    subst e3
    exact lt_of_block h2
theorem own_ge {u : World} {B1 : Nat} {t : TypeId} {s n : Nat} {v : Value} {vs : List Value} (ho : u.ownsRow B1 t s v n vs) {g : Nat} (hg : v.ownBlock = some g) : B1 ≤ g := by
  rcases ho.2 with ⟨e, -⟩ | ⟨g2, cap, cur, e, h1, h2, h3⟩
  · rw [e] at hg; cases hg
  · rw [e] at hg
    have e3 : g2 = g := by simpa [Value.ownBlock] using hg
    omega
/-- Tokens of our own in blocks from lo on and below hi. -/
def TkS (u : World) (lo hi : Nat) (a : Option Addr) (l c : Nat) (xs : List RToken) : Prop := ∃ vs, u.ownsRow lo 33 4 (.slice a l c) l vs ∧ TkO u hi xs vs lo ∧ ∀ g, (Value.slice a l c).ownBlock = some g → g < hi
theorem TkS.none {u z : World} {lo hi : Nat} {a : Option Addr} {l c : Nat} {xs : List RToken} (h : TkS u lo hi a l c xs) (k : u.grownBy z Option.none) : TkS z lo hi a l c xs := by
  obtain ⟨vs, h1, h2, h3⟩ := h
  exact ⟨vs, h1.kept k (Classical.em _), h2.none k, h3⟩
theorem TkS.far {u z : World} {lo hi p : Nat} {a : Option Addr} {l c : Nat} {xs : List RToken} (h : TkS u lo hi a l c xs) (k : u.grownBy z (some p)) (hp : p < lo ∨ hi ≤ p) : TkS z lo hi a l c xs := by
  obtain ⟨vs, h1, h2, h3⟩ := h
  refine ⟨vs, h1.kept k ?_, h2.far k (fun g hg => by cases hg; exact hp), h3⟩
  by_cases e : (Value.slice a l c).ownBlock = some p
  · have := h3 p e; have := own_ge h1 e; omega
  · exact .inr e
theorem TkS.bel {u z : World} {lo hi B : Nat} {a : Option Addr} {l c : Nat} {xs : List RToken} (h : TkS u lo hi a l c xs) (k : Below B u z) (hB : hi ≤ B) : TkS z lo hi a l c xs := by
  obtain ⟨vs, h1, h2, h3⟩ := h
  exact ⟨vs, own_bel k h1 (fun g hg => Nat.lt_of_lt_of_le (h3 g hg) hB), h2.bel k hB, h3⟩
theorem TkS.sl {u : World} {lo hi : Nat} {a : Option Addr} {l c : Nat} {xs : List RToken} (h : TkS u lo hi a l c xs) (hs : xs.length ≤ 1048576) : SlToken u a l xs := by
  obtain ⟨vs, h1, h2, h3⟩ := h
  exact (own_slT h1 h2 (by have := h1.1; rw [h2.len] at this; omega)).le CLe.unhidz
theorem TkS.len {u : World} {lo hi : Nat} {a : Option Addr} {l c : Nat} {xs : List RToken} (h : TkS u lo hi a l c xs) : xs.length = l := by
  obtain ⟨vs, h1, h2, h3⟩ := h
  have := h1.1; rw [h2.len] at this; omega
theorem TkS.of {w u : World} {a : Option Addr} {l c : Nat} {xs : List RToken} {vs : List Value} (h1 : u.ownsRow w.heap.size 33 4 (.slice a l c) l vs) (h2 : TkO u u.heap.size xs vs w.heap.size) : TkS u w.heap.size u.heap.size a l c xs :=
  ⟨vs, h1, h2, fun g hg => own_lt h1 hg⟩
theorem grown_bel {w u z : World} (g : w.grownBy u none) {B : Nat} (hB : w.heap.size ≤ B) (h : Below B u z) : w.grownBy z none :=
  ⟨h.os.trans g.os, h.tape.trans g.tape, h.output.trans g.output, Nat.le_trans g.size h.size, fun i hi _ => (h.block i (by omega)).trans (g.block i hi (by simp))⟩
end Go.Proofs.YtaecnhmegdeicaaDoor.By
