/- My own texts Tab14, Tab13, laid in one file. -/
import Derived.Test.YtbagjeefoifpeaaDoorZ42
import Derived.Test.YtbagjeefoifpeaaDoorZ2
import Derived.Test.YtbagjeefoifpeaaDoorZ43

/- Whether two tables are the same: damperref5.Same. -/
namespace Go.Proofs.YtbagjeefoifpeaaDoor
set_option maxRecDepth 100000
set_option linter.unusedVariables false
set_option linter.unusedSimpArgs false
set_option linter.unnecessarySimpa false
open Go.RowKit Go.Args


end Go.Proofs.YtbagjeefoifpeaaDoor
