/- My own texts LrG, laid in one file. -/
import Derived.Test.YtjhfjjkfnmnkgaaZ98D

/- The second form's roller: Turn, where the way goes elsewhere. -/
namespace Go.Proofs.Ytjhfjjkfnmnkgaa
set_option maxRecDepth 100000
set_option linter.unusedVariables false
set_option linter.unusedSimpArgs false
set_option linter.unnecessarySimpa false
open Go.RowKit Go.Args

end Go.Proofs.Ytjhfjjkfnmnkgaa
