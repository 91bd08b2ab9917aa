
/- TablePicks: where any draw, each tag leads, what is the same, and its text, are the document's. -/
import Derived.Test.YtbagjeefoifpeaaDoorTableCopy
import Derived.Test.YtbagjeefoifpeaaDoorZ47
namespace Go.Proofs.YtbagjeefoifpeaaDoor
set_option maxRecDepth 100000
set_option linter.unusedVariables false
set_option linter.unusedSimpArgs false
set_option linter.unnecessarySimpa false
open Go.RowKit Go.Args

end Go.Proofs.YtbagjeefoifpeaaDoor
