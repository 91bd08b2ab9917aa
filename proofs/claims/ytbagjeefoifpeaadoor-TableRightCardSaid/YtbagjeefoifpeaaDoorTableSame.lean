
/- TableSame: two tables are the same just where their texts are; one thing another one, and they are not. -/
import Derived.Test.YtbagjeefoifpeaaDoorTabX
namespace Go.Proofs.YtbagjeefoifpeaaDoor
set_option maxRecDepth 100000
set_option linter.unusedVariables false
set_option linter.unusedSimpArgs false
set_option linter.unnecessarySimpa false
open Go.RowKit Go.Args

end Go.Proofs.YtbagjeefoifpeaaDoor
