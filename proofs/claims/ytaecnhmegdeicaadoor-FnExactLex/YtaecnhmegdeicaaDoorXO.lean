/-
  spec.Lex. No statement is proved here.
-/
import Derived.Test.YtaecnhmegdeicaaDoorXP
import Derived.Test.YtaecnhmegdeicaaDoorES
import Derived.Deep.CutBlock
namespace Go.Proofs.YtaecnhmegdeicaaDoor.By
open Go.RowKit
set_option linter.unusedVariables false
set_option linter.unusedSimpArgs false



theorem byt_partX {zs D : List Int} (h : Byt zs) (k : Nat) (hD : ∀ i, D.getD i 0 = zs.getD (k + i) 0) {m : Nat} : Byt (D.take m) := fun x hx => by
  have h1 := List.mem_of_mem_take hx
  obtain ⟨i, hi, e⟩ := List.getElem_of_mem h1
  have h2 := hD i
  have h3 := byt_get h (k + i)
  rw [← List.getD_eq_getElem?_getD, ← h2, List.getD_eq_getElem?_getD, List.getElem?_eq_getElem hi, e] at h3
  exact h3
theorem isSep_iff (z : Int) : isSepZ z = true ↔ (z = 32 ∨ z = 10 ∨ z = 40 ∨ z = 41 ∨ z = 34) := by
  unfold isSepZ; simp [or_assoc]

set_option maxRecDepth 8000 in
set_option maxHeartbeats 4000000 in
theorem specLexT (b o n c : Nat) (zs : List Int) (w : World) (hz0 : zs.length = n) (hby : Byt zs) (hcs : ∀ i, i < n → w.cell? ⟨b, o + i, none⟩ = some (.int .u8 (zs.getD i 0))) (hn : n ≤ 4000) (hlc : n ≤ c) (hE : EnvX w) :
    Calls Tryd.prog 4 #[.slice (some ⟨b, o, none⟩) n c] w fun e u => ∃ a' l' c' vs, e = .returned (.tuple #[.slice a' l' c', .int .i64 (lexV zs).2]) ∧ w.grownBy u none ∧ u.ownsRow w.heap.size 33 4 (.slice a' l' c') l' vs ∧ TkO u u.heap.size (lexV zs).1 vs w.heap.size := by
  have HH : Hid (zs.length = n ∧ Byt zs ∧ EnvX w ∧ ∀ u, w.grownBy u none → ∀ i, i < n → u.cell? ⟨b, o + i, none⟩ = some (.int .u8 (zs.getD i 0))) := ⟨hz0, hby, hE, fun u hu i hi => hu.cell (hcs i hi) (by simp)⟩
  have hn4 : ¬ (n : Int) > 4000 := by omega
  have L0 : Hid (LexI w w zs none 0 0 0) := ⟨zs.length + 1, [], [], by omega, by unfold lexV; rw [if_neg (by omega)], World.grownBy.refl _ _, ⟨rfl, .inl ⟨rfl, rfl⟩⟩, ⟨rfl, Nat.le_refl _⟩, Nat.le_refl _⟩
  clear hz0 hby hcs hE
  go_enter Tryd.func4, Tryd.ntmps4
  go_wp2_with fail
  go_loopw [4, 5] (fun ts i wr => ∃ (k l3 c3 : Nat) (a3 : Option Addr), k ≤ n ∧ i = .int .i64 k ∧ ts = .slice a3 l3 c3 ∧ Hid (LexI w wr zs a3 l3 c3 k)) (fun ts i _ => n - (intOf i).toNat)
  case atStart => exact ⟨0, 0, 0, none, Nat.zero_le _, rfl, rfl, L0.out⟩
  case round =>
    clear L0
    obtain ⟨k, l3, c3, a3, hk, rfl, rfl, HL⟩ := hrel
    by_cases hlt : k < n
    rotate_left
    · obtain ⟨f, acc, vs, h1, h2, h3, h4, h5, h6⟩ := HL.out
      have HV : Hid (lexV zs = (acc, -1)) := by
        show _ = _
        rw [h2]
        cases f with
        | zero => rfl
        | succ f => unfold lexR; rw [if_pos (by have := HH.out.1; omega)]
      have HF : Hid (w.grownBy wr none ∧ wr.ownsRow w.heap.size 33 4 (.slice a3 l3 c3) l3 vs ∧ TkO wr wr.heap.size acc vs w.heap.size) := ⟨h3, h4, h5⟩
      clear h1 h2 h3 h4 h5 HL
      go_wp2_with fail
      go_ret2
      exact ⟨a3, l3, c3, vs, by rw [HV.out]; rfl, HF.out.1, HF.out.2.1, by rw [HV.out]; exact HF.out.2.2⟩
    obtain ⟨z, hz⟩ : ∃ z, zs.getD k 0 = z := ⟨_, rfl⟩
    obtain ⟨f, acc, vs, h1, h2, h3, h4, h5, h6⟩ := HL.out
    obtain ⟨f, rfl⟩ : ∃ g, f = g + 1 := ⟨f - 1, by have := HH.out.1; omega⟩
    have HR : Hid (lexV zs = if z = 32 ∨ z = 10 then lexR f zs (k + 1) acc else match firstV (zs.drop k) with
      | none => ([], (k : Int))
      | some (x, q) => lexR f zs (k + q) (acc ++ [⟨x.kind, k, x.n, x.text⟩])) := by
      show _ = _
      rw [h2]
      conv => lhs; unfold lexR
      rw [if_neg (by have := HH.out.1; omega), hz]
      split
      · rfl
      · cases firstV (zs.drop k) <;> rfl
    have HF : Hid (zs.length + 1 ≤ f + 1 + k ∧ w.grownBy wr none ∧ wr.ownsRow w.heap.size 33 4 (.slice a3 l3 c3) l3 vs ∧ TkO wr wr.heap.size acc vs w.heap.size ∧ l3 ≤ k) := ⟨h1, h3, h4, h5, h6⟩
    have hc : wr.cell? ⟨b, o + k, none⟩ = some (.int .u8 z) := by
      have := HH.out.2.2.2 wr h3 k hlt
      rw [hz] at this
      exact this
    clear h1 h2 h3 h4 h5 HL
    by_cases hsp : z = 32
    · have HV : Hid (lexV zs = lexR f zs (k + 1) acc) := by show _ = _; rw [HR.out, if_pos (.inl hsp)]
      subst hsp
      clear hz
      go_wp2_with fail
      go_roundw
      case rel => exact ⟨k + 1, l3, c3, a3, by omega, by go_num, rfl, f, acc, vs, by have := HF.out.1; omega, HV.out, HF.out.2.1, HF.out.2.2.1, HF.out.2.2.2.1, by have := HF.out.2.2.2.2; omega⟩
      case measure => simp [intOf]; omega
    by_cases hnl : z = 10
    · have HV : Hid (lexV zs = lexR f zs (k + 1) acc) := by show _ = _; rw [HR.out, if_pos (.inr hnl)]
      subst hnl
      clear hz
      go_wp2_with fail
      go_roundw
      case rel => exact ⟨k + 1, l3, c3, a3, by omega, by go_num, rfl, f, acc, vs, by have := HF.out.1; omega, HV.out, HF.out.2.1, HF.out.2.2.1, HF.out.2.2.2.1, by have := HF.out.2.2.2.2; omega⟩
      case measure => simp [intOf]; omega
    have HN : Hid (lexV zs = match firstV (zs.drop k) with
      | none => ([], (k : Int))
      | some (x, q) => lexR f zs (k + q) (acc ++ [⟨x.kind, k, x.n, x.text⟩])) := by show _ = _; rw [HR.out, if_neg (by omega)]
    have hs1 : (z == 32) = false := by simpa using hsp
    have hs2 : (z == 10) = false := by simpa using hnl
    have hz2 : (zs.drop k).getD 0 0 = z := by rw [getD_drop, Nat.add_zero, hz]
    obtain ⟨i0, hi, hy0, hy1, hy2⟩ := info_parts infoSToken
    by_cases h40 : z = 40
    · have HV : Hid (lexV zs = lexR f zs (k + 1) (acc ++ [⟨1, k, 0, []⟩])) := by show _ = _; rw [HN.out]; unfold firstV; rw [hz2, if_pos h40]
      subst h40
      clear hz hz2 HN HR
      have gb := World.grownBy_alloc wr (.cells #[.int .i64 1, .int .i64 (k : Int), .int .i64 0, .slice none 0 0] 33) none
      have hb2 := heap_alloc_new wr (.cells #[.int .i64 1, .int .i64 (k : Int), .int .i64 0, .slice none 0 0] 33)
      have G2 : Hid (wr.grownBy (wr.alloc (.cells #[.int .i64 1, .int .i64 (k : Int), .int .i64 0, .slice none 0 0] 33)) none) := gb
      have O1 : Hid _ := HF.out.2.2.1.kept G2.out (Classical.em _)
      have HC : Hid (∀ j v, ([.int .i64 1, .int .i64 (k : Int), .int .i64 0, .slice none 0 0] : List Value)[j]? = some v → (wr.alloc (.cells #[.int .i64 1, .int .i64 (k : Int), .int .i64 0, .slice none 0 0] 33)).cell? ((⟨wr.heap.size, 0, none⟩ : Addr).add j) = some v) := fun j v hj => by
        rw [Go.WideShapes.add_plain, Nat.zero_add, cell_of_row _ _ _ _ _ (0, 0) hb2]
        simpa using hj
      have H1 : Hid (∀ v ∈ ([.int .i64 1, .int .i64 (k : Int), .int .i64 0, .slice none 0 0] : List Value), v.oneCell' = true) := fun v hv => by
        simp only [List.mem_cons, List.not_mem_nil, or_false] at hv
        rcases hv with rfl | rfl | rfl | rfl <;> rfl
      have hBB := Nat.le_trans HF.out.2.1.size G2.out.size
      clear gb hb2
      go_wp2_with (at_builtin; go_must (refine wpList_append_own _ rfl (.tmp 126) (.tmp 130) 23 rfl w.heap.size 33 i0 _ 4 48 Tryd.underlying23 hi hy0 hy1 hy2 rfl (by decide) (.slice a3 l3 c3) l3 vs rfl O1.out ⟨wr.heap.size, 0, none⟩ 1 1 [.int .i64 1, .int .i64 (k : Int), .int .i64 0, .slice none 0 0] rfl rfl HC.out H1.out (by unfold maxLen; omega) (by omega) hBB ?_))
      intro v2 y2 ho2 hg2 _
      obtain ⟨a4, c4, rfl⟩ := own_sl ho2
      have HZ : Hid (LexI w y2 zs a4 (l3 + 1) c4 (k + 1)) := lexI_push HF.out.2.1 HF.out.2.2.1 HF.out.2.2.2.1 (by have := HF.out.2.2.2.2; omega) (by have := HF.out.1; omega) HV.out G2.out ⟨rfl, .inl ⟨rfl, rfl⟩⟩ (fun z hz => by simp at hz) (by omega) ho2 hg2
      clear HF G2 O1 HC H1 ho2 hg2 hBB HV
      go_wp2_with fail
      go_roundw
      case rel => exact ⟨k + 1, l3 + 1, c4, a4, by omega, by go_num, rfl, HZ⟩
      case measure => simp [intOf]; omega
    by_cases h41 : z = 41
    · have HV : Hid (lexV zs = lexR f zs (k + 1) (acc ++ [⟨2, k, 0, []⟩])) := by show _ = _; rw [HN.out]; unfold firstV; rw [hz2, if_neg h40, if_pos h41]
      subst h41
      clear hz hz2 HN HR
      have gb := World.grownBy_alloc wr (.cells #[.int .i64 2, .int .i64 (k : Int), .int .i64 0, .slice none 0 0] 33) none
      have hb2 := heap_alloc_new wr (.cells #[.int .i64 2, .int .i64 (k : Int), .int .i64 0, .slice none 0 0] 33)
      have G2 : Hid (wr.grownBy (wr.alloc (.cells #[.int .i64 2, .int .i64 (k : Int), .int .i64 0, .slice none 0 0] 33)) none) := gb
      have O1 : Hid _ := HF.out.2.2.1.kept G2.out (Classical.em _)
      have HC : Hid (∀ j v, ([.int .i64 2, .int .i64 (k : Int), .int .i64 0, .slice none 0 0] : List Value)[j]? = some v → (wr.alloc (.cells #[.int .i64 2, .int .i64 (k : Int), .int .i64 0, .slice none 0 0] 33)).cell? ((⟨wr.heap.size, 0, none⟩ : Addr).add j) = some v) := fun j v hj => by
        rw [Go.WideShapes.add_plain, Nat.zero_add, cell_of_row _ _ _ _ _ (0, 0) hb2]
        simpa using hj
      have H1 : Hid (∀ v ∈ ([.int .i64 2, .int .i64 (k : Int), .int .i64 0, .slice none 0 0] : List Value), v.oneCell' = true) := fun v hv => by
        simp only [List.mem_cons, List.not_mem_nil, or_false] at hv
        rcases hv with rfl | rfl | rfl | rfl <;> rfl
      have hBB := Nat.le_trans HF.out.2.1.size G2.out.size
      clear gb hb2
      go_wp2_with (at_builtin; go_must (refine wpList_append_own _ rfl (.tmp 126) (.tmp 130) 23 rfl w.heap.size 33 i0 _ 4 48 Tryd.underlying23 hi hy0 hy1 hy2 rfl (by decide) (.slice a3 l3 c3) l3 vs rfl O1.out ⟨wr.heap.size, 0, none⟩ 1 1 [.int .i64 2, .int .i64 (k : Int), .int .i64 0, .slice none 0 0] rfl rfl HC.out H1.out (by unfold maxLen; omega) (by omega) hBB ?_))
      intro v2 y2 ho2 hg2 _
      obtain ⟨a4, c4, rfl⟩ := own_sl ho2
      have HZ : Hid (LexI w y2 zs a4 (l3 + 1) c4 (k + 1)) := lexI_push HF.out.2.1 HF.out.2.2.1 HF.out.2.2.2.1 (by have := HF.out.2.2.2.2; omega) (by have := HF.out.1; omega) HV.out G2.out ⟨rfl, .inl ⟨rfl, rfl⟩⟩ (fun z hz => by simp at hz) (by omega) ho2 hg2
      clear HF G2 O1 HC H1 ho2 hg2 hBB HV
      go_wp2_with fail
      go_roundw
      case rel => exact ⟨k + 1, l3 + 1, c4, a4, by omega, by go_num, rfl, HZ⟩
      case measure => simp [intOf]; omega
    by_cases h34 : z = 34
    rotate_left
    · have hns : isSepZ z = false := by
        cases hh : isSepZ z with
        | false => rfl
        | true => rw [isSep_iff] at hh; omega
      have hDl : (zs.drop k).length = n - k := by rw [List.length_drop, HH.out.1]
      obtain ⟨D, hDD⟩ : ∃ D, zs.drop k = D := ⟨_, rfl⟩
      have HD : Hid ((∀ i, D.getD i 0 = zs.getD (k + i) 0) ∧ D.length = n - k) := ⟨fun i => by rw [← hDD, getD_drop], by rw [← hDD]; exact hDl⟩
      have hp1 : 1 ≤ sepN D := sepN_next D 0 (by rw [HD.out.2]; omega) (Nat.zero_le _) (by rw [HD.out.1, Nat.add_zero, hz]; exact hns)
      have hp2 : k + sepN D ≤ n := by have := sepN_le D; have := HD.out.2; omega
      have HM : Hid (lexV zs = match (pieceV (D.take (sepN D))).map fun x => (x, sepN D) with
        | none => ([], (k : Int))
        | some (x, q) => lexR f zs (k + q) (acc ++ [⟨x.kind, k, x.n, x.text⟩])) := by
        show _ = _
        rw [HN.out, firstV_piece (by rw [hz2]; exact h40) (by rw [hz2]; exact h41) (by rw [hz2]; exact h34), hDD]
      have hs3 : (z == 40) = false := by simpa using h40
      have hs4 : (z == 41) = false := by simpa using h41
      have hs5 : (z == 34) = false := by simpa using h34
      clear hz hz2 HN HR hDl hDD hns
      go_upto_block 3 with fail
      go_cut [9] (fun s wx => s = .int .i64 ((k + sepN D : Nat) : Int) ∧ wx = wr)
      case first =>
        clear hs1 hs2 hs3 hs4 hs5 h40 h41 h34 hsp hnl
        go_wp2_with fail
        go_loopw [9] (fun j9 wx => ∃ j : Nat, k ≤ j ∧ j ≤ n ∧ j9 = .int .i64 j ∧ wx = wr ∧ Hid (j - k ≤ sepN D)) (fun j9 _ => n - (intOf j9).toNat)
        case atStart => exact ⟨k, Nat.le_refl _, by omega, rfl, rfl, by show _ ≤ _; omega⟩
        case round =>
          obtain ⟨j, hj0, hj, rfl, rfl, HJ⟩ := hrel
          by_cases hjn : j < n
          · obtain ⟨y, hy⟩ : ∃ y, zs.getD j 0 = y := ⟨_, rfl⟩
            have hcy := HH.out.2.2.2 _ HF.out.2.1 j hjn
            rw [hy] at hcy
            have hyD : D.getD (j - k) 0 = y := by rw [HD.out.1, show k + (j - k) = j by omega, hy]
            have HQ : Hid (isSepZ y = true → k + sepN D = j) := fun h => by have := sepN_at D (j - k) (by rw [HD.out.2]; omega) HJ.out (by rw [hyD]; exact h); omega
            have HQ2 : Hid (isSepZ y = false → j + 1 - k ≤ sepN D) := fun h => by have := sepN_next D (j - k) (by rw [HD.out.2]; omega) HJ.out (by rw [hyD]; exact h); omega
            clear hyD hy HM HF HD
            by_cases y1 : y = 32
            · subst y1
              go_wp2_with fail
              go_meet
              case rel => exact ⟨by rw [HQ.out rfl], rfl⟩
            by_cases y2 : y = 10
            · subst y2
              go_wp2_with fail
              go_meet
              case rel => exact ⟨by rw [HQ.out rfl], rfl⟩
            by_cases y3 : y = 40
            · subst y3
              go_wp2_with fail
              go_meet
              case rel => exact ⟨by rw [HQ.out rfl], rfl⟩
            by_cases y4 : y = 41
            · subst y4
              go_wp2_with fail
              go_meet
              case rel => exact ⟨by rw [HQ.out rfl], rfl⟩
            by_cases y5 : y = 34
            · subst y5
              go_wp2_with fail
              go_meet
              case rel => exact ⟨by rw [HQ.out rfl], rfl⟩
            have HS : Hid (j + 1 - k ≤ sepN D) := HQ2.out (by
              cases hh : isSepZ y with
              | false => rfl
              | true => rw [isSep_iff] at hh; omega)
            have q1 : (y != 32) = true := by simpa using y1
            have q2 : (y != 10) = true := by simpa using y2
            have q3 : (y != 40) = true := by simpa using y3
            have q4 : (y != 41) = true := by simpa using y4
            have q5 : (y != 34) = true := by simpa using y5
            clear HQ HQ2
            go_wp2_with fail
            go_roundw
            case rel => exact ⟨j + 1, by omega, by omega, by go_num, trivial, HS⟩
            case measure => simp [intOf]; omega
          · have HQ : Hid (k + sepN D = j) := by show _ = _; have := HJ.out; have := sepN_le D; have := HD.out.2; omega
            clear HM HF HD
            go_wp2_with fail
            go_meet
            case rel => exact ⟨by rw [HQ.out], rfl⟩
      case rest =>
        obtain ⟨rfl, hcw⟩ := hcut
        have hcw := hcw.symm
        subst hcw
        obtain ⟨ee, he⟩ : ∃ ee, k + sepN D = ee := ⟨_, rfl⟩
        have hm : sepN D = ee - k := by omega
        rw [he]
        rw [he] at hp2
        rw [hm] at HM
        have hke : k < ee := by omega
        clear he hp1
        obtain ⟨m, hmm⟩ : ∃ m, ee - k = m := ⟨_, rfl⟩
        rw [hmm] at HM
        obtain ⟨TX, hTX⟩ : ∃ TX, D.take m = TX := ⟨_, rfl⟩
        rw [hTX] at HM
        have HT : Hid (TX.length = m ∧ Byt TX ∧ ∀ i, i < m → wr.cell? ⟨b, o + k + i, none⟩ = some (.int .u8 (TX.getD i 0))) := by
          refine ⟨by rw [← hTX, List.length_take, HD.out.2]; omega, by rw [← hTX]; exact byt_partX HH.out.2.1 k HD.out.1, fun i hi => ?_⟩
          rw [← hTX, List.getD_eq_getElem?_getD, List.getElem?_take_of_lt hi, ← List.getD_eq_getElem?_getD, HD.out.1, Nat.add_assoc]
          exact HH.out.2.2.2 _ HF.out.2.1 (k + i) (by omega)
        clear hm hTX HD hs1 hs2 hs3 hs4 hs5 h40 h41 h34 hsp hnl hc
        subst hmm
        obtain ⟨i5, hi5, hw0, hw1, hw2⟩ := info_parts info5
        have gE := World.grownBy_alloc wr (.cells #[] 5) none
        have hE5 := heap_alloc_new wr (.cells #[] 5)
        have OE : Hid ((wr.alloc (.cells #[] 5)).ownsRow wr.heap.size 5 1 (.slice (some ⟨wr.heap.size, 0, none⟩) 0 0) 0 []) := ⟨by simp, .inr ⟨wr.heap.size, 0, #[], rfl, Nat.le_refl _, hE5, Nat.le_refl _, by unfold maxLen; omega, by simp, by simp⟩⟩
        have GE : Hid (wr.grownBy (wr.alloc (.cells #[] 5)) none) := gE
        have HN5 : Hid (∀ jj x, (vB TX)[jj]? = some x → (wr.alloc (.cells #[] 5)).cell? ((⟨b, o + k, none⟩ : Addr).add jj) = some x) := fun jj x hx => by
          rw [Go.WideShapes.add_plain]
          have hj' : jj < (ee - k) := by
            have := (List.getElem?_eq_some_iff.1 hx).1
            simp only [vB, List.length_map] at this
            have := HT.out.1
            omega
          rw [vB_at TX hx]
          exact gE.cell (HT.out.2.2 jj hj') (by simp)
        have HL5 : Hid ((vB TX).length = (ee - k) * 1) := by show _ = _; simp [vB, HT.out.1]
        have H15 : Hid (∀ x ∈ vB TX, x.oneCell' = true) := vB_one TX
        have hBl : wr.heap.size ≤ (wr.alloc (.cells #[] 5)).heap.size := GE.out.size
        clear gE hE5
        go_wp2_with (at_builtin; go_must (refine wpList_append_own _ rfl (.tmp 66) (.tmp 70) 22 rfl wr.heap.size 5 i5 (.int .u8 0) 1 1 Tryd.underlying22 hi5 hw0 hw1 hw2 rfl (by decide) (.slice (some ⟨wr.heap.size, 0, none⟩) 0 0) 0 [] rfl OE.out ⟨b, o + k, none⟩ (ee - k) (c - k) (vB TX) rfl HL5.out HN5.out H15.out (by unfold maxLen; omega) (by omega) hBl ?_))
        intro v5 y5 ho5 hg5 _
        have ho6 : y5.ownsRow wr.heap.size 5 1 v5 (ee - k) (vB TX) := by simpa using ho5
        have gy := grown_rowX GE.out OE.out hg5
        clear ho5 hg5 GE OE HN5 HL5 H15 hBl
        obtain ⟨a5, c5, rfl⟩ := own_sl ho6
        have HU0 : Hid (wr.grownBy y5 none ∧ y5.ownsRow wr.heap.size 5 1 (.slice a5 (ee - k) c5) (ee - k) (vB TX)) := ⟨gy, ho6⟩
        clear gy ho6
        obtain ⟨g5, hg5e, HC5⟩ : ∃ g5, a5 = some ⟨g5, 0, none⟩ ∧ Hid (∀ i, i < ee - k → y5.cell? ⟨g5, 0 + i, none⟩ = some (.int .u8 (TX.getD i 0))) := by
          rcases row_cell HU0.out.2 with h0 | ⟨g, e, -, -, hc⟩
          · omega
          · exact ⟨g, e, fun i hi => by rw [Nat.zero_add]; exact (hideZ_inv (hc i _ (vB_get (by rw [HT.out.1]; exact hi)))).2.1⟩
        subst hg5e
        have RD : Hid (RdB y5 (some ⟨g5, 0, none⟩) (ee - k) TX) := ⟨⟨HT.out.1, .inr ⟨g5, 0, rfl, HC5.out⟩⟩, HT.out.2.1, by omega⟩
        have CI : Hid _ := intT g5 0 (ee - k) c5 TX y5 HT.out.1 HT.out.2.1 (by omega) (by omega) HC5.out
        go_wp2_with fail
        refine Calls.mono CI.out ?_
        rintro e u ⟨⟨nn, rfl, hnn⟩, rfl⟩
        clear CI
        cases hwz : wholeZ TX with
        | some q =>
          obtain rfl := hnn q hwz
          have HV : Hid (lexV zs = lexR f zs (k + (ee - k)) (acc ++ [⟨4, k, q, []⟩])) := by
            show _ = _
            rw [HM.out]
            unfold pieceV
            rw [hwz]
            rfl
          have HU : Hid (wr.grownBy u none ∧ u.ownsRow wr.heap.size 5 1 (.slice none 0 0) 0 (vB [])) := ⟨HU0.out.1, ⟨rfl, .inl ⟨rfl, rfl⟩⟩⟩
          have HB : Hid (Byt ([] : List Int)) := fun z hz => by simp at hz
          have es : (some q).isSome = true := rfl
          clear hnn hwz HM HU0 RD HC5 HT
          have gb := World.grownBy_alloc u (.cells #[.int .i64 4, .int .i64 (k : Int), .int .i64 q, .slice none 0 0] 33) none
          have hb2 := heap_alloc_new u (.cells #[.int .i64 4, .int .i64 (k : Int), .int .i64 q, .slice none 0 0] 33)
          have G2 : Hid (wr.grownBy (u.alloc (.cells #[.int .i64 4, .int .i64 (k : Int), .int .i64 q, .slice none 0 0] 33)) none) := grown_trans HU.out.1 gb
          have G3 : Hid ((u.alloc (.cells #[.int .i64 4, .int .i64 (k : Int), .int .i64 q, .slice none 0 0] 33)).ownsRow wr.heap.size 5 1 (.slice none 0 0) 0 (vB [])) := own_noneX HU.out.2 gb
          have O1 : Hid _ := HF.out.2.2.1.kept G2.out (Classical.em _)
          have HC : Hid (∀ jq vq, ([.int .i64 4, .int .i64 (k : Int), .int .i64 q, .slice none 0 0] : List Value)[jq]? = some vq → (u.alloc (.cells #[.int .i64 4, .int .i64 (k : Int), .int .i64 q, .slice none 0 0] 33)).cell? ((⟨u.heap.size, 0, none⟩ : Addr).add jq) = some vq) := fun jq vq hj => by
            rw [Go.WideShapes.add_plain, Nat.zero_add, cell_of_row _ _ _ _ _ (0, 0) hb2]
            simpa using hj
          have H1 : Hid (∀ v ∈ ([.int .i64 4, .int .i64 (k : Int), .int .i64 q, .slice none 0 0] : List Value), v.oneCell' = true) := fun v hv => by
            simp only [List.mem_cons, List.not_mem_nil, or_false] at hv
            rcases hv with rfl | rfl | rfl | rfl <;> rfl
          have hBB := Nat.le_trans HF.out.2.1.size G2.out.size
          clear gb hb2
          go_wp2_with (at_builtin; go_must (refine wpList_append_own _ rfl (.tmp 80) (.tmp 84) 23 rfl w.heap.size 33 i0 _ 4 48 Tryd.underlying23 hi hy0 hy1 hy2 rfl (by decide) (.slice a3 l3 c3) l3 vs rfl O1.out ⟨u.heap.size, 0, none⟩ 1 1 [.int .i64 4, .int .i64 (k : Int), .int .i64 q, .slice none 0 0] rfl rfl HC.out H1.out (by unfold maxLen; omega) (by omega) hBB ?_))
          intro v2 y2 ho2 hg2 _
          obtain ⟨a4, c4, rfl⟩ := own_sl ho2
          have HZ : Hid (LexI w y2 zs a4 (l3 + 1) c4 (k + (ee - k))) := lexI_push HF.out.2.1 HF.out.2.2.1 HF.out.2.2.2.1 (by have := HF.out.2.2.2.2; omega) (by have := HF.out.1; omega) HV.out G2.out G3.out HB.out (by omega) ho2 hg2
          clear HF G2 G3 O1 HC H1 ho2 hg2 hBB HV HU
          go_wp2_with fail
          go_roundw
          case rel => exact ⟨ee, l3 + 1, c4, a4, by omega, rfl, rfl, by have := HZ.out; rwa [show k + (ee - k) = ee by omega] at this⟩
          case measure => simp [intOf]; omega
        | none =>
          have es : (none : Option Int).isSome = false := rfl
          have HM2 : Hid (lexV zs = if wordZ TX = true then lexR f zs (k + (ee - k)) (acc ++ [⟨3, k, 0, TX⟩]) else ([], (k : Int))) := by
            show _ = _
            rw [HM.out]
            unfold pieceV
            rw [hwz]
            cases wordZ TX <;> rfl
          clear hnn hwz HM
          have E95 : strOfNums [95] = ⟨#[95]⟩ := by kernel_rfl
          go_upto_region 15 with fail
          go_cut [86] (fun s wx => s = .bool (wordZ TX) ∧ Hid (u.grownBy wx none))
          case first =>
            have C1 : Hid _ := l5wordT (some ⟨g5, 0, none⟩) (ee - k) c5 TX false u RD.out
            clear HM2 HF
            go_wp2_with fail
            refine Calls.mono C1.out ?_
            rintro e u1 ⟨rfl, hg1⟩
            clear C1
            rcases bool_ex (wordV (loG false) (hiG false) TX) with h1 | h1
            · rw [h1]
              have E : Hid (wordZ TX = true) := by
                show _ = _
                unfold wordZ
                rw [show wordV 97 122 TX = true from h1]
                rfl
              have G1 : Hid (u.grownBy u1 none) := hg1
              clear h1 hg1 E95
              go_wp2_with fail
              go_meet
              case rel => exact ⟨by rw [E.out], G1⟩
            rw [h1]
            have C2 : Hid _ := l5wordT (some ⟨g5, 0, none⟩) (ee - k) c5 TX true u1 (RD.out.none hg1)
            have G1 : Hid (u.grownBy u1 none) := hg1
            have H1 : Hid (wordV 97 122 TX = false) := h1
            clear h1 hg1
            go_wp2_with fail
            refine Calls.mono C2.out ?_
            rintro e u2 ⟨rfl, hg2⟩
            clear C2
            have G2 : Hid (u.grownBy u2 none) := grown_trans G1.out hg2
            clear G1 hg2
            rcases bool_ex (wordV (loG true) (hiG true) TX) with h2 | h2
            · rw [h2]
              have E : Hid (wordZ TX = true) := by
                show _ = _
                unfold wordZ
                rw [H1.out, show wordV 65 90 TX = true from h2]
                rfl
              clear h2 H1 E95
              go_wp2_with fail
              go_meet
              case rel => exact ⟨by rw [E.out], G2⟩
            rw [h2]
            have C3 : Hid _ := l5isT (some ⟨g5, 0, none⟩) (ee - k) c5 TX ⟨#[95]⟩ u2 (RD.out.none G2.out)
            have E3 : Hid (decide (strOfNums TX = ⟨#[95]⟩) = decide (TX = [95])) := by
              show _ = _
              rw [← E95]
              exact str_eq HT.out.2.1 (fun z hz => by simp at hz; omega)
            have H2 : Hid (wordV 65 90 TX = false) := h2
            clear h2 E95
            go_wp2_with fail
            refine Calls.mono C3.out ?_
            rintro e u3 ⟨rfl, hg3⟩
            clear C3
            rw [E3.out]
            clear E3
            have G3 : Hid (u.grownBy u3 none) := grown_trans G2.out hg3
            clear G2 hg3
            rcases bool_ex (decide (TX = [95])) with h3 | h3
            · rw [h3]
              have E : Hid (wordZ TX = true) := by
                show _ = _
                unfold wordZ
                rw [H1.out, H2.out, h3]
                rfl
              clear h3 H1 H2
              go_wp2_with fail
              go_meet
              case rel => exact ⟨by rw [E.out], G3⟩
            rw [h3]
            have C4 : Hid _ := tickT g5 0 (ee - k) c5 TX u3 HT.out.1 (fun i hi => G3.out.cell (HC5.out i hi) (by simp))
            have H3 : Hid (decide (TX = [95]) = false) := h3
            clear h3
            go_wp2_with fail
            refine Calls.mono C4.out ?_
            rintro e u4 ⟨rfl, hg4⟩
            have G4 : Hid (u.grownBy u4 none) := grown_trans G3.out hg4
            have E : Hid (wordZ TX = varWV TX) := by
              show _ = _
              unfold wordZ
              rw [H1.out, H2.out, H3.out]
              rfl
            clear C4 G3 hg4 H1 H2 H3
            rcases bool_ex (varWV TX) with h4 | h4 <;>
            · rw [h4]
              rw [h4] at E
              clear h4
              go_wp2_with fail
              go_meet
              case rel => exact ⟨by rw [E.out], G4⟩
          case rest =>
            obtain ⟨rfl, HCW⟩ := hcut
            clear E95 HC5 RD
            cases hw : wordZ TX with
            | true =>
              have HV : Hid (lexV zs = lexR f zs (k + (ee - k)) (acc ++ [⟨3, k, 0, TX⟩])) := by show _ = _; rw [HM2.out, if_pos hw]
              have HU : Hid (wr.grownBy wc none ∧ wc.ownsRow wr.heap.size 5 1 (.slice (some ⟨g5, 0, none⟩) (ee - k) c5) (ee - k) (vB TX)) := ⟨grown_trans HU0.out.1 HCW.out, own_noneX HU0.out.2 HCW.out⟩
              clear HM2 hw HU0 HCW
              have gb := World.grownBy_alloc wc (.cells #[.int .i64 3, .int .i64 (k : Int), .int .i64 0, .slice (some ⟨g5, 0, none⟩) (ee - k) c5] 33) none
              have hb2 := heap_alloc_new wc (.cells #[.int .i64 3, .int .i64 (k : Int), .int .i64 0, .slice (some ⟨g5, 0, none⟩) (ee - k) c5] 33)
              have G2 : Hid (wr.grownBy (wc.alloc (.cells #[.int .i64 3, .int .i64 (k : Int), .int .i64 0, .slice (some ⟨g5, 0, none⟩) (ee - k) c5] 33)) none) := grown_trans HU.out.1 gb
              have G3 : Hid ((wc.alloc (.cells #[.int .i64 3, .int .i64 (k : Int), .int .i64 0, .slice (some ⟨g5, 0, none⟩) (ee - k) c5] 33)).ownsRow wr.heap.size 5 1 (.slice (some ⟨g5, 0, none⟩) (ee - k) c5) (ee - k) (vB TX)) := own_noneX HU.out.2 gb
              have O1 : Hid _ := HF.out.2.2.1.kept G2.out (Classical.em _)
              have HC : Hid (∀ jq vq, ([.int .i64 3, .int .i64 (k : Int), .int .i64 0, .slice (some ⟨g5, 0, none⟩) (ee - k) c5] : List Value)[jq]? = some vq → (wc.alloc (.cells #[.int .i64 3, .int .i64 (k : Int), .int .i64 0, .slice (some ⟨g5, 0, none⟩) (ee - k) c5] 33)).cell? ((⟨wc.heap.size, 0, none⟩ : Addr).add jq) = some vq) := fun jq vq hj => by
                rw [Go.WideShapes.add_plain, Nat.zero_add, cell_of_row _ _ _ _ _ (0, 0) hb2]
                simpa using hj
              have H1 : Hid (∀ v ∈ ([.int .i64 3, .int .i64 (k : Int), .int .i64 0, .slice (some ⟨g5, 0, none⟩) (ee - k) c5] : List Value), v.oneCell' = true) := fun v hv => by
                simp only [List.mem_cons, List.not_mem_nil, or_false] at hv
                rcases hv with rfl | rfl | rfl | rfl <;> rfl
              have hBB := Nat.le_trans HF.out.2.1.size G2.out.size
              clear gb hb2
              go_wp2_with (at_builtin; go_must (refine wpList_append_own _ rfl (.tmp 101) (.tmp 105) 23 rfl w.heap.size 33 i0 _ 4 48 Tryd.underlying23 hi hy0 hy1 hy2 rfl (by decide) (.slice a3 l3 c3) l3 vs rfl O1.out ⟨wc.heap.size, 0, none⟩ 1 1 [.int .i64 3, .int .i64 (k : Int), .int .i64 0, .slice (some ⟨g5, 0, none⟩) (ee - k) c5] rfl rfl HC.out H1.out (by unfold maxLen; omega) (by omega) hBB ?_))
              intro v2 y2 ho2 hg2 _
              obtain ⟨a4, c4, rfl⟩ := own_sl ho2
              have HZ : Hid (LexI w y2 zs a4 (l3 + 1) c4 (k + (ee - k))) := lexI_push HF.out.2.1 HF.out.2.2.1 HF.out.2.2.2.1 (by have := HF.out.2.2.2.2; omega) (by have := HF.out.1; omega) HV.out G2.out G3.out HT.out.2.1 (by omega) ho2 hg2
              clear HF G2 G3 O1 HC H1 ho2 hg2 hBB HV HU
              go_wp2_with fail
              go_roundw
              case rel => exact ⟨ee, l3 + 1, c4, a4, by omega, rfl, rfl, by have := HZ.out; rwa [show k + (ee - k) = ee by omega] at this⟩
              case measure => simp [intOf]; omega
            | false =>
              have HV : Hid (lexV zs = ([], (k : Int))) := by show _ = _; rw [HM2.out, hw]; rfl
              have HG : Hid (w.grownBy wc none) := grown_trans HF.out.2.1 (grown_trans HU0.out.1 HCW.out)
              clear HM2 hw HU0 HCW HF HT
              go_wp2_with fail
              go_ret2
              exact ⟨none, 0, 0, [], by rw [HV.out]; rfl, HG.out, ⟨rfl, .inl ⟨rfl, rfl⟩⟩, by rw [HV.out]; exact ⟨rfl, HG.out.size⟩⟩
    have hD : (zs.drop k).drop 1 = zs.drop (k + 1) := by rw [List.drop_drop]
    have hDl : (zs.drop (k + 1)).length = n - (k + 1) := by rw [List.length_drop, HH.out.1]
    obtain ⟨D, hDD⟩ : ∃ D, zs.drop (k + 1) = D := ⟨_, rfl⟩
    have HD : Hid ((∀ i, D.getD i 0 = zs.getD (k + 1 + i) 0) ∧ D.length = n - (k + 1)) := ⟨fun i => by rw [← hDD, getD_drop], by rw [← hDD]; exact hDl⟩
    have HM : Hid (lexV zs = match litT D with
      | none => ([], (k : Int))
      | some (x, q) => lexR f zs (k + q) (acc ++ [⟨x.kind, k, x.n, x.text⟩])) := by
      show _ = _
      rw [HN.out, firstV_mark (by rw [hz2]; exact h34), hD, hDD]
    subst h34
    clear hz hz2 HN HR hD hDl hDD h40 h41
    go_wp2_with fail
    go_loopw [8] (fun j8 wx => ∃ j : Nat, k + 1 ≤ j ∧ j ≤ n ∧ j8 = .int .i64 j ∧ wx = wr ∧ Hid (j - (k + 1) ≤ qN D)) (fun j8 _ => n - (intOf j8).toNat)
    case atStart => exact ⟨k + 1, Nat.le_refl _, by omega, by go_num, rfl, by show _ ≤ _; omega⟩
    case round =>
      obtain ⟨j, hj0, hj, rfl, rfl, HJ⟩ := hrel
      by_cases hjn : j < n
      · obtain ⟨y, hy⟩ : ∃ y, zs.getD j 0 = y := ⟨_, rfl⟩
        have hcy := HH.out.2.2.2 _ HF.out.2.1 j hjn
        rw [hy] at hcy
        have hyD : D.getD (j - (k + 1)) 0 = y := by rw [HD.out.1, show k + 1 + (j - (k + 1)) = j by omega, hy]
        by_cases h34 : y = 34
        · have HQ : Hid (qN D = j - (k + 1)) := qN_at D _ (by rw [HD.out.2]; omega) HJ.out (by rw [hyD]; exact h34)
          have HL : Hid (litT D = if litV (D.take (j - (k + 1))) = true then some (⟨5, 0, 0, D.take (j - (k + 1))⟩, j - (k + 1) + 2) else none) := by
            show _ = _
            unfold litT
            rw [if_neg (by have := HQ.out; have := HD.out.2; omega), HQ.out]
          have hlen : (D.take (j - (k + 1))).length = j - (k + 1) := by rw [List.length_take, HD.out.2]; omega
          have hcD : ∀ i, i < j - (k + 1) → wr.cell? ⟨b, o + (k + 1) + i, none⟩ = some (.int .u8 ((D.take (j - (k + 1))).getD i 0)) := fun i hi => by
            rw [List.getD_eq_getElem?_getD, List.getElem?_take_of_lt hi, ← List.getD_eq_getElem?_getD, HD.out.1, Nat.add_assoc]
            exact HH.out.2.2.2 _ HF.out.2.1 (k + 1 + i) (by omega)
          have hbD : Byt (D.take (j - (k + 1))) := byt_partX HH.out.2.1 (k + 1) HD.out.1
          obtain ⟨TX, hTX⟩ : ∃ TX, D.take (j - (k + 1)) = TX := ⟨_, rfl⟩
          rw [hTX] at hlen hcD hbD HL
          have HRd : Hid (RdB wr (some ⟨b, o + (k + 1), none⟩) (j - (k + 1)) TX) := ⟨⟨hlen, .inr ⟨b, o + (k + 1), rfl, hcD⟩⟩, hbD, by omega⟩
          have HT0 : Hid (TX.length = j - (k + 1) ∧ Byt TX ∧ ∀ i, i < j - (k + 1) → wr.cell? ⟨b, o + (k + 1) + i, none⟩ = some (.int .u8 (TX.getD i 0))) := ⟨hlen, hbD, hcD⟩
          have CL : Hid _ := l5litT (some ⟨b, o + (k + 1), none⟩) (j - (k + 1)) (c - (k + 1)) TX wr HRd.out
          have h34b : (y == 34) = true := by simpa using h34
          have hj2 : ¬ ((n : Int) ≤ j) := by omega
          clear hlen hcD hbD HQ HJ hyD hy hTX
          go_wp2_with fail
          refine Calls.mono CL.out ?_
          rintro e u ⟨rfl, hg⟩
          have HG : Hid (w.grownBy u none) := grown_trans HF.out.2.1 hg
          clear CL
          rcases bool_ex (litV TX) with hv | hv
          · have HV : Hid (lexV zs = lexR f zs (k + (j - (k + 1) + 2)) (acc ++ [⟨5, k, 0, TX⟩])) := by
              show _ = _
              rw [HM.out, HL.out, if_pos hv]
            rw [hv]
            have HT : Hid (TX.length = j - (k + 1) ∧ Byt TX ∧ ∀ i, i < j - (k + 1) → u.cell? ⟨b, o + (k + 1) + i, none⟩ = some (.int .u8 (TX.getD i 0))) := ⟨HT0.out.1, HT0.out.2.1, fun i hi => hg.cell (HT0.out.2.2 i hi) (by simp)⟩
            have HWU : Hid (wr.grownBy u none) := hg
            clear HM hv HL HT0 HRd HD hg HG
            obtain ⟨i5, hi5, hw0, hw1, hw2⟩ := info_parts info5
            have gE := World.grownBy_alloc u (.cells #[] 5) none
            have hE5 := heap_alloc_new u (.cells #[] 5)
            have OE : Hid ((u.alloc (.cells #[] 5)).ownsRow u.heap.size 5 1 (.slice (some ⟨u.heap.size, 0, none⟩) 0 0) 0 []) := ⟨by simp, .inr ⟨u.heap.size, 0, #[], rfl, Nat.le_refl _, hE5, Nat.le_refl _, by unfold maxLen; omega, by simp, by simp⟩⟩
            have GE : Hid (u.grownBy (u.alloc (.cells #[] 5)) none) := gE
            have HN5 : Hid (∀ jj x, (vB TX)[jj]? = some x → (u.alloc (.cells #[] 5)).cell? ((⟨b, o + (k + 1), none⟩ : Addr).add jj) = some x) := fun jj x hx => by
              rw [Go.WideShapes.add_plain]
              have hj' : jj < (j - (k + 1)) := by
                have := (List.getElem?_eq_some_iff.1 hx).1
                simp only [vB, List.length_map] at this
                have := HT.out.1
                omega
              rw [vB_at TX hx]
              exact gE.cell (HT.out.2.2 jj hj') (by simp)
            have HL5 : Hid ((vB TX).length = (j - (k + 1)) * 1) := by show _ = _; simp [vB, HT.out.1]
            have H15 : Hid (∀ x ∈ vB TX, x.oneCell' = true) := vB_one TX
            have hBl : u.heap.size ≤ (u.alloc (.cells #[] 5)).heap.size := GE.out.size
            clear gE hE5
            go_wp2_with (at_builtin; go_must (refine wpList_append_own _ rfl (.tmp 168) (.tmp 173) 22 rfl u.heap.size 5 i5 (.int .u8 0) 1 1 Tryd.underlying22 hi5 hw0 hw1 hw2 rfl (by decide) (.slice (some ⟨u.heap.size, 0, none⟩) 0 0) 0 [] rfl OE.out ⟨b, o + (k + 1), none⟩ (j - (k + 1)) (c - (k + 1)) (vB TX) rfl HL5.out HN5.out H15.out (by unfold maxLen; omega) (by omega) hBl ?_))
            intro v5 y5 ho5 hg5 _
            have ho6 : y5.ownsRow u.heap.size 5 1 v5 (j - (k + 1)) (vB TX) := by simpa using ho5
            have gy := grown_rowX GE.out OE.out hg5
            clear ho5 hg5 GE OE HN5 HL5 H15 hBl
            obtain ⟨a5, c5, rfl⟩ := own_sl ho6
            have HU : Hid (wr.grownBy y5 none ∧ y5.ownsRow wr.heap.size 5 1 (.slice a5 (j - (k + 1)) c5) (j - (k + 1)) (vB TX)) := ⟨grown_trans HWU.out gy, Go.Joins.ownsRow_le ho6 HWU.out.size⟩
            clear gy ho6 HWU
            have gb := World.grownBy_alloc y5 (.cells #[.int .i64 5, .int .i64 (k : Int), .int .i64 0, .slice a5 (j - (k + 1)) c5] 33) none
            have hb2 := heap_alloc_new y5 (.cells #[.int .i64 5, .int .i64 (k : Int), .int .i64 0, .slice a5 (j - (k + 1)) c5] 33)
            have G2 : Hid (wr.grownBy (y5.alloc (.cells #[.int .i64 5, .int .i64 (k : Int), .int .i64 0, .slice a5 (j - (k + 1)) c5] 33)) none) := grown_trans HU.out.1 gb
            have G3 : Hid ((y5.alloc (.cells #[.int .i64 5, .int .i64 (k : Int), .int .i64 0, .slice a5 (j - (k + 1)) c5] 33)).ownsRow wr.heap.size 5 1 (.slice a5 (j - (k + 1)) c5) (j - (k + 1)) (vB TX)) := own_noneX HU.out.2 gb
            have O1 : Hid _ := HF.out.2.2.1.kept G2.out (Classical.em _)
            have HC : Hid (∀ jq vq, ([.int .i64 5, .int .i64 (k : Int), .int .i64 0, .slice a5 (j - (k + 1)) c5] : List Value)[jq]? = some vq → (y5.alloc (.cells #[.int .i64 5, .int .i64 (k : Int), .int .i64 0, .slice a5 (j - (k + 1)) c5] 33)).cell? ((⟨y5.heap.size, 0, none⟩ : Addr).add jq) = some vq) := fun jq vq hj => by
              rw [Go.WideShapes.add_plain, Nat.zero_add, cell_of_row _ _ _ _ _ (0, 0) hb2]
              simpa using hj
            have H1 : Hid (∀ v ∈ ([.int .i64 5, .int .i64 (k : Int), .int .i64 0, .slice a5 (j - (k + 1)) c5] : List Value), v.oneCell' = true) := fun v hv => by
              simp only [List.mem_cons, List.not_mem_nil, or_false] at hv
              rcases hv with rfl | rfl | rfl | rfl <;> rfl
            have hBB := Nat.le_trans HF.out.2.1.size G2.out.size
            clear gb hb2
            go_wp2_with (at_builtin; go_must (refine wpList_append_own _ rfl (.tmp 166) (.tmp 176) 23 rfl w.heap.size 33 i0 _ 4 48 Tryd.underlying23 hi hy0 hy1 hy2 rfl (by decide) (.slice a3 l3 c3) l3 vs rfl O1.out ⟨y5.heap.size, 0, none⟩ 1 1 [.int .i64 5, .int .i64 (k : Int), .int .i64 0, .slice a5 (j - (k + 1)) c5] rfl rfl HC.out H1.out (by unfold maxLen; omega) (by omega) hBB ?_))
            intro v2 y2 ho2 hg2 _
            obtain ⟨a4, c4, rfl⟩ := own_sl ho2
            have HZ : Hid (LexI w y2 zs a4 (l3 + 1) c4 (k + (j - (k + 1) + 2))) := lexI_push HF.out.2.1 HF.out.2.2.1 HF.out.2.2.2.1 (by have := HF.out.2.2.2.2; omega) (by have := HF.out.1; omega) HV.out G2.out G3.out HT.out.2.1 (by omega) ho2 hg2
            clear HF G2 G3 O1 HC H1 ho2 hg2 hBB HV HU
            go_wp2_with fail
            go_roundw
            case rel => exact ⟨k + (j - (k + 1) + 2), l3 + 1, c4, a4, by omega, by go_num, rfl, HZ⟩
            case measure => simp [intOf]; omega
          · have HV : Hid (lexV zs = ([], (k : Int))) := by
              show _ = _
              rw [HM.out, HL.out, if_neg (by rw [hv]; decide)]
            rw [hv]
            clear HM HF hg hv HL
            go_wp2_with fail
            go_ret2
            exact ⟨none, 0, 0, [], by rw [HV.out]; rfl, HG.out, ⟨rfl, .inl ⟨rfl, rfl⟩⟩, by rw [HV.out]; exact ⟨rfl, HG.out.size⟩⟩
        · have HQ : Hid (j + 1 - (k + 1) ≤ qN D) := by
            have := qN_next D _ (by rw [HD.out.2]; omega) HJ.out (by rw [hyD]; exact h34)
            show _ ≤ _
            omega
          have h34b : (y == 34) = false := by simpa using h34
          clear hyD hy
          go_wp2_with fail
          go_roundw
          case rel => exact ⟨j + 1, by omega, by omega, by go_num, trivial, HQ⟩
          case measure => simp [intOf]; omega
      · have HV : Hid (lexV zs = ([], (k : Int))) := by
          show _ = _
          have e : litT D = none := by
            unfold litT
            rw [if_pos (by have := HJ.out; have := qN_le D; have := HD.out.2; omega)]
          rw [HM.out, e]
        have HG : Hid (w.grownBy _ none) := HF.out.2.1
        clear HM HF HJ
        go_wp2_with fail
        go_ret2
        exact ⟨none, 0, 0, [], by rw [HV.out]; rfl, HG.out, ⟨rfl, .inl ⟨rfl, rfl⟩⟩, by rw [HV.out]; exact ⟨rfl, HG.out.size⟩⟩
end Go.Proofs.YtaecnhmegdeicaaDoor.By
