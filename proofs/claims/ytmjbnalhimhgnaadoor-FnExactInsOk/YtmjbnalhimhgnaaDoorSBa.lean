/-
  Lists of trees as parts of structs: how great, copied. No statement is proved here.
-/
import Derived.Test.YtmjbnalhimhgnaaDoorGS
import Derived.Test.YtmjbnalhimhgnaaDoorGQ
import Derived.Test.YtmjbnalhimhgnaaDoorEC0
namespace Go.Proofs.YtmjbnalhimhgnaaDoor.By
open Go.RowKit
set_option linter.unusedVariables false
set_option linter.unusedSimpArgs false

theorem RowI.hidn {w : World} {t : TypeId} {g n lo : Nat} {zs : List Int} (h : RowI w t g n zs) (hl : zs.length = n) (hn : n ≤ 1048576) (hg : lo ≤ g) : RdI (hideW w lo) (some ⟨g, 0, none⟩) n zs :=
  ⟨(h.of_block (hideW_heap hg)).reads' hl, by omega⟩

end Go.Proofs.YtmjbnalhimhgnaaDoor.By
