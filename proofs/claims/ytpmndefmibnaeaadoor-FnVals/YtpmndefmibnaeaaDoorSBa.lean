/-
  Lists of trees as parts of structs: how great, copied. No statement is proved here.
-/
import Derived.Test.YtpmndefmibnaeaaDoorGS
import Derived.Test.YtpmndefmibnaeaaDoorGQ
import Derived.Test.YtpmndefmibnaeaaDoorEC1
namespace Go.Proofs.YtpmndefmibnaeaaDoor.By
open Go.RowKit
set_option linter.unusedVariables false
set_option linter.unusedSimpArgs false

end Go.Proofs.YtpmndefmibnaeaaDoor.By
