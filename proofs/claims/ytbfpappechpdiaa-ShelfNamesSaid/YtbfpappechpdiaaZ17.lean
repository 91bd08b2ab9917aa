/- My own texts CopyB, TgtO, laid in one file. -/
import Derived.Test.YtbfpappechpdiaaZ2
import Derived.Test.YtbfpappechpdiaaZ8
import Derived.Test.YtbfpappechpdiaaZ4

/- Bytes copied by an append onto nothing; what is read of a row of bytes of the call's own. -/
namespace Go.Proofs.Ytbfpappechpdiaa
set_option maxRecDepth 100000
set_option linter.unusedVariables false
set_option linter.unusedSimpArgs false
set_option linter.unnecessarySimpa false
open Go.RowKit


end Go.Proofs.Ytbfpappechpdiaa
