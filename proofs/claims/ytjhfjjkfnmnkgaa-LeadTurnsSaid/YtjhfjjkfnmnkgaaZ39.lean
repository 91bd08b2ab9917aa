/- My own texts Tab3, laid in one file. -/
import Derived.Test.YtjhfjjkfnmnkgaaZ38
import Derived.Test.YtjhfjjkfnmnkgaaZ2

/- What damperref5's Right answers. -/
namespace Go.Proofs.Ytjhfjjkfnmnkgaa
set_option maxRecDepth 100000
set_option linter.unusedVariables false
set_option linter.unusedSimpArgs false
set_option linter.unnecessarySimpa false
open Go.RowKit Go.Args

end Go.Proofs.Ytjhfjjkfnmnkgaa
