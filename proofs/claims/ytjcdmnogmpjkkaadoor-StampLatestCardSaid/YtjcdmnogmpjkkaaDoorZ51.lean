/- My own texts Rl9, laid in one file. -/
import Derived.Test.YtjcdmnogmpjkkaaDoorZ48
import Derived.Test.YtjcdmnogmpjkkaaDoorZ40
import Derived.Test.YtjcdmnogmpjkkaaDoorZ2

/- damperref4.Put: a name put where it stands. -/
namespace Go.Proofs.YtjcdmnogmpjkkaaDoor
set_option maxRecDepth 100000
set_option linter.unusedVariables false
set_option linter.unusedSimpArgs false
set_option linter.unnecessarySimpa false
open Go.RowKit Go.Args

end Go.Proofs.YtjcdmnogmpjkkaaDoor
