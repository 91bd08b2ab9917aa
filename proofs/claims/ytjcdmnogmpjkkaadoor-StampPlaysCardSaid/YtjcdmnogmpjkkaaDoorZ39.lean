/- My own texts Tab3, laid in one file. -/
import Derived.Test.YtjcdmnogmpjkkaaDoorZ38
import Derived.Test.YtjcdmnogmpjkkaaDoorZ2

/- What damperref5's Right answers. -/
namespace Go.Proofs.YtjcdmnogmpjkkaaDoor
set_option maxRecDepth 100000
set_option linter.unusedVariables false
set_option linter.unusedSimpArgs false
set_option linter.unnecessarySimpa false
open Go.RowKit Go.Args

end Go.Proofs.YtjcdmnogmpjkkaaDoor
