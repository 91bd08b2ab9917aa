
/- Made tables are the same where their texts are: plainly. -/
import Derived.Test.YtbagjeefoifpeaaDoorTablePicks
namespace Go.Proofs.YtbagjeefoifpeaaDoor
set_option maxRecDepth 100000
set_option linter.unusedVariables false
set_option linter.unusedSimpArgs false
set_option linter.unnecessarySimpa false
open Go.RowKit Go.Args

end Go.Proofs.YtbagjeefoifpeaaDoor
