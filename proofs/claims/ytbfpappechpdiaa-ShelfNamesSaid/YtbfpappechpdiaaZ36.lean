/- My own texts RdI, laid in one file. -/
import Derived.Test.YtbfpappechpdiaaZ2
import Derived.Test.YtbfpappechpdiaaZ1

/- Small things on how arguments read. -/
namespace Go.Proofs.Ytbfpappechpdiaa
set_option maxRecDepth 100000
set_option linter.unusedVariables false
set_option linter.unusedSimpArgs false
open Go.ChangeShapes Go.WideShapes Go.ChangeAt Go.RowKit Go.Args

section
variable {H : Type} {enc : TypeId × Value → H} {W : World}
end
end Go.Proofs.Ytbfpappechpdiaa
