
/- What every row's frame wants: how the arguments that came in read. -/
import Derived.Test.YtifkombocmdmfaaZ1
import Derived.ProofKit
import Derived.Lib.LaidTab
import Derived.SizedLaws
import Derived.OpenShut
namespace Go.Proofs.Ytifkombocmdmfaa
set_option maxRecDepth 100000
set_option linter.unusedVariables false
set_option linter.unusedSimpArgs false
set_option linter.unnecessarySimpa false
open Go.ChangeShapes Go.WideShapes Go.ChangeAt Go.RowKit

theorem wf64_of {n : Int} (h : (Lit.int .i64 n).wf = true) : wf64 n := by
  have := Go.bounds_i64 h
  exact ⟨by omega, by omega⟩
end Go.Proofs.Ytifkombocmdmfaa
