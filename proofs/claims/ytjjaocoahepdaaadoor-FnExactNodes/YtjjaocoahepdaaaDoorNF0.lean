/-
  The table of forms. No statement is proved here.
-/
import Derived.Test.YtjjaocoahepdaaaDoorNE
namespace Go.Proofs.YtjjaocoahepdaaaDoor.By
open Go.RowKit
set_option linter.unusedVariables false
set_option linter.unusedSimpArgs false
set_option maxRecDepth 20000

abbrev Frm := ByteArray × Int × Int × ByteArray
def formsL : List Frm := [(⟨#[117, 110, 105, 116]⟩, 0, 0, ⟨#[]⟩), (⟨#[]⟩, 1, 0, ⟨#[105]⟩), (⟨#[]⟩, 2, 0, ⟨#[116]⟩), (⟨#[]⟩, 3, 0, ⟨#[110]⟩), (⟨#[102, 110]⟩, 4, 0, ⟨#[110, 107]⟩), (⟨#[]⟩, 5, 0, ⟨#[107, 107]⟩), (⟨#[108, 101, 116]⟩, 6, 0, ⟨#[110, 107, 107]⟩), (⟨#[114, 101, 99]⟩, 7, 0, ⟨#[110, 97, 107, 107]⟩), (⟨#[105, 102]⟩, 8, 0, ⟨#[107, 107, 107]⟩), (⟨#[112, 97, 105, 114]⟩, 9, 0, ⟨#[107, 107]⟩), (⟨#[102, 115, 116]⟩, 10, 0, ⟨#[107]⟩), (⟨#[115, 110, 100]⟩, 11, 0, ⟨#[107]⟩), (⟨#[114, 101, 102]⟩, 12, 0, ⟨#[107]⟩), (⟨#[114, 101, 97, 100]⟩, 13, 0, ⟨#[107]⟩), (⟨#[119, 114, 105, 116, 101]⟩, 14, 0, ⟨#[107, 107]⟩), (⟨#[]⟩, 15, 0, ⟨#[103, 102]⟩), (⟨#[109, 97, 116, 99, 104]⟩, 16, 0, ⟨#[107, 109]⟩), (⟨#[114, 97, 105, 115, 101]⟩, 17, 0, ⟨#[107]⟩), (⟨#[116, 114, 121]⟩, 18, 0, ⟨#[107, 110, 107]⟩), (⟨#[97, 100, 100]⟩, 19, 0, ⟨#[107, 107]⟩), (⟨#[115, 117, 98]⟩, 19, 1, ⟨#[107, 107]⟩), (⟨#[109, 117, 108]⟩, 19, 2, ⟨#[107, 107]⟩), (⟨#[108, 101, 115, 115]⟩, 19, 3, ⟨#[107, 107]⟩), (⟨#[115, 97, 109, 101]⟩, 19, 4, ⟨#[107, 107]⟩), (⟨#[99, 97, 116]⟩, 19, 5, ⟨#[107, 107]⟩), (⟨#[108, 101, 110]⟩, 19, 6, ⟨#[107]⟩), (⟨#[112, 114, 105, 110, 116]⟩, 20, 0, ⟨#[107]⟩), (⟨#[116, 105, 99, 107]⟩, 20, 1, ⟨#[]⟩), (⟨#[100, 114, 97, 119]⟩, 20, 2, ⟨#[107]⟩), (⟨#[103, 101, 116]⟩, 20, 3, ⟨#[107]⟩), (⟨#[112, 117, 116]⟩, 20, 4, ⟨#[107, 107]⟩)]
def formsA : Array Value := #[.string ⟨#[117, 110, 105, 116]⟩, .int .i64 0, .int .i64 0, .string ⟨#[]⟩, .string ⟨#[]⟩, .int .i64 1, .int .i64 0, .string ⟨#[105]⟩, .string ⟨#[]⟩, .int .i64 2, .int .i64 0, .string ⟨#[116]⟩, .string ⟨#[]⟩, .int .i64 3, .int .i64 0, .string ⟨#[110]⟩, .string ⟨#[102, 110]⟩, .int .i64 4, .int .i64 0, .string ⟨#[110, 107]⟩, .string ⟨#[]⟩, .int .i64 5, .int .i64 0, .string ⟨#[107, 107]⟩, .string ⟨#[108, 101, 116]⟩, .int .i64 6, .int .i64 0, .string ⟨#[110, 107, 107]⟩, .string ⟨#[114, 101, 99]⟩, .int .i64 7, .int .i64 0, .string ⟨#[110, 97, 107, 107]⟩, .string ⟨#[105, 102]⟩, .int .i64 8, .int .i64 0, .string ⟨#[107, 107, 107]⟩, .string ⟨#[112, 97, 105, 114]⟩, .int .i64 9, .int .i64 0, .string ⟨#[107, 107]⟩, .string ⟨#[102, 115, 116]⟩, .int .i64 10, .int .i64 0, .string ⟨#[107]⟩, .string ⟨#[115, 110, 100]⟩, .int .i64 11, .int .i64 0, .string ⟨#[107]⟩, .string ⟨#[114, 101, 102]⟩, .int .i64 12, .int .i64 0, .string ⟨#[107]⟩, .string ⟨#[114, 101, 97, 100]⟩, .int .i64 13, .int .i64 0, .string ⟨#[107]⟩, .string ⟨#[119, 114, 105, 116, 101]⟩, .int .i64 14, .int .i64 0, .string ⟨#[107, 107]⟩, .string ⟨#[]⟩, .int .i64 15, .int .i64 0, .string ⟨#[103, 102]⟩, .string ⟨#[109, 97, 116, 99, 104]⟩, .int .i64 16, .int .i64 0, .string ⟨#[107, 109]⟩, .string ⟨#[114, 97, 105, 115, 101]⟩, .int .i64 17, .int .i64 0, .string ⟨#[107]⟩, .string ⟨#[116, 114, 121]⟩, .int .i64 18, .int .i64 0, .string ⟨#[107, 110, 107]⟩, .string ⟨#[97, 100, 100]⟩, .int .i64 19, .int .i64 0, .string ⟨#[107, 107]⟩, .string ⟨#[115, 117, 98]⟩, .int .i64 19, .int .i64 1, .string ⟨#[107, 107]⟩, .string ⟨#[109, 117, 108]⟩, .int .i64 19, .int .i64 2, .string ⟨#[107, 107]⟩, .string ⟨#[108, 101, 115, 115]⟩, .int .i64 19, .int .i64 3, .string ⟨#[107, 107]⟩, .string ⟨#[115, 97, 109, 101]⟩, .int .i64 19, .int .i64 4, .string ⟨#[107, 107]⟩, .string ⟨#[99, 97, 116]⟩, .int .i64 19, .int .i64 5, .string ⟨#[107, 107]⟩, .string ⟨#[108, 101, 110]⟩, .int .i64 19, .int .i64 6, .string ⟨#[107]⟩, .string ⟨#[112, 114, 105, 110, 116]⟩, .int .i64 20, .int .i64 0, .string ⟨#[107]⟩, .string ⟨#[116, 105, 99, 107]⟩, .int .i64 20, .int .i64 1, .string ⟨#[]⟩, .string ⟨#[100, 114, 97, 119]⟩, .int .i64 20, .int .i64 2, .string ⟨#[107]⟩, .string ⟨#[103, 101, 116]⟩, .int .i64 20, .int .i64 3, .string ⟨#[107]⟩, .string ⟨#[112, 117, 116]⟩, .int .i64 20, .int .i64 4, .string ⟨#[107, 107]⟩]
theorem formsL_len : formsL.length = 31 := rfl
theorem formsA_size : formsA.size = 124 := by kernel_rfl
def hitF (k n : Int) (f : Frm) : Bool := decide (f.2.1 = k) && (decide (f.2.2.1 = n) || hasB f.2.2.2 105)
def formV (k n : Int) : Option Frm := formsL.find? (hitF k n)
/-- A row of the table, taken by its place. -/
theorem idxF : ∀ (j : Nat) (f : Frm), formsL[j]? = some f → ∀ w, (Instr.index 70 (.agg formsA) (.int .i64 (j : Int))).run Tryd.prog w = .ok (.agg #[.string f.1, .int .i64 f.2.1, .int .i64 f.2.2.1, .string f.2.2.2]) w
  | 0, f, h, w => by obtain rfl : (⟨#[117, 110, 105, 116]⟩, 0, 0, ⟨#[]⟩) = f := Option.some.inj h; kernel_rfl
  | 1, f, h, w => by obtain rfl : (⟨#[]⟩, 1, 0, ⟨#[105]⟩) = f := Option.some.inj h; kernel_rfl
  | 2, f, h, w => by obtain rfl : (⟨#[]⟩, 2, 0, ⟨#[116]⟩) = f := Option.some.inj h; kernel_rfl
  | 3, f, h, w => by obtain rfl : (⟨#[]⟩, 3, 0, ⟨#[110]⟩) = f := Option.some.inj h; kernel_rfl
  | 4, f, h, w => by obtain rfl : (⟨#[102, 110]⟩, 4, 0, ⟨#[110, 107]⟩) = f := Option.some.inj h; kernel_rfl
  | 5, f, h, w => by obtain rfl : (⟨#[]⟩, 5, 0, ⟨#[107, 107]⟩) = f := Option.some.inj h; kernel_rfl
  | 6, f, h, w => by obtain rfl : (⟨#[108, 101, 116]⟩, 6, 0, ⟨#[110, 107, 107]⟩) = f := Option.some.inj h; kernel_rfl
  | 7, f, h, w => by obtain rfl : (⟨#[114, 101, 99]⟩, 7, 0, ⟨#[110, 97, 107, 107]⟩) = f := Option.some.inj h; kernel_rfl
  | 8, f, h, w => by obtain rfl : (⟨#[105, 102]⟩, 8, 0, ⟨#[107, 107, 107]⟩) = f := Option.some.inj h; kernel_rfl
  | 9, f, h, w => by obtain rfl : (⟨#[112, 97, 105, 114]⟩, 9, 0, ⟨#[107, 107]⟩) = f := Option.some.inj h; kernel_rfl
  | 10, f, h, w => by obtain rfl : (⟨#[102, 115, 116]⟩, 10, 0, ⟨#[107]⟩) = f := Option.some.inj h; kernel_rfl
  | 11, f, h, w => by obtain rfl : (⟨#[115, 110, 100]⟩, 11, 0, ⟨#[107]⟩) = f := Option.some.inj h; kernel_rfl
  | 12, f, h, w => by obtain rfl : (⟨#[114, 101, 102]⟩, 12, 0, ⟨#[107]⟩) = f := Option.some.inj h; kernel_rfl
  | 13, f, h, w => by obtain rfl : (⟨#[114, 101, 97, 100]⟩, 13, 0, ⟨#[107]⟩) = f := Option.some.inj h; kernel_rfl
  | 14, f, h, w => by obtain rfl : (⟨#[119, 114, 105, 116, 101]⟩, 14, 0, ⟨#[107, 107]⟩) = f := Option.some.inj h; kernel_rfl
  | 15, f, h, w => by obtain rfl : (⟨#[]⟩, 15, 0, ⟨#[103, 102]⟩) = f := Option.some.inj h; kernel_rfl
  | 16, f, h, w => by obtain rfl : (⟨#[109, 97, 116, 99, 104]⟩, 16, 0, ⟨#[107, 109]⟩) = f := Option.some.inj h; kernel_rfl
  | 17, f, h, w => by obtain rfl : (⟨#[114, 97, 105, 115, 101]⟩, 17, 0, ⟨#[107]⟩) = f := Option.some.inj h; kernel_rfl
  | 18, f, h, w => by obtain rfl : (⟨#[116, 114, 121]⟩, 18, 0, ⟨#[107, 110, 107]⟩) = f := Option.some.inj h; kernel_rfl
  | 19, f, h, w => by obtain rfl : (⟨#[97, 100, 100]⟩, 19, 0, ⟨#[107, 107]⟩) = f := Option.some.inj h; kernel_rfl
  | 20, f, h, w => by obtain rfl : (⟨#[115, 117, 98]⟩, 19, 1, ⟨#[107, 107]⟩) = f := Option.some.inj h; kernel_rfl
  | 21, f, h, w => by obtain rfl : (⟨#[109, 117, 108]⟩, 19, 2, ⟨#[107, 107]⟩) = f := Option.some.inj h; kernel_rfl
  | 22, f, h, w => by obtain rfl : (⟨#[108, 101, 115, 115]⟩, 19, 3, ⟨#[107, 107]⟩) = f := Option.some.inj h; kernel_rfl
  | 23, f, h, w => by obtain rfl : (⟨#[115, 97, 109, 101]⟩, 19, 4, ⟨#[107, 107]⟩) = f := Option.some.inj h; kernel_rfl
  | 24, f, h, w => by obtain rfl : (⟨#[99, 97, 116]⟩, 19, 5, ⟨#[107, 107]⟩) = f := Option.some.inj h; kernel_rfl
  | 25, f, h, w => by obtain rfl : (⟨#[108, 101, 110]⟩, 19, 6, ⟨#[107]⟩) = f := Option.some.inj h; kernel_rfl
  | 26, f, h, w => by obtain rfl : (⟨#[112, 114, 105, 110, 116]⟩, 20, 0, ⟨#[107]⟩) = f := Option.some.inj h; kernel_rfl
  | 27, f, h, w => by obtain rfl : (⟨#[116, 105, 99, 107]⟩, 20, 1, ⟨#[]⟩) = f := Option.some.inj h; kernel_rfl
  | 28, f, h, w => by obtain rfl : (⟨#[100, 114, 97, 119]⟩, 20, 2, ⟨#[107]⟩) = f := Option.some.inj h; kernel_rfl
  | 29, f, h, w => by obtain rfl : (⟨#[103, 101, 116]⟩, 20, 3, ⟨#[107]⟩) = f := Option.some.inj h; kernel_rfl
  | 30, f, h, w => by obtain rfl : (⟨#[112, 117, 116]⟩, 20, 4, ⟨#[107, 107]⟩) = f := Option.some.inj h; kernel_rfl
  | j + 31, f, h, w => by
    have : formsL[j + 31]? = none := List.getElem?_eq_none (by rw [formsL_len]; omega)
    rw [this] at h; cases h
end Go.Proofs.YtjjaocoahepdaaaDoor.By
