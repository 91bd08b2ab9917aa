
/- The walk of LeadRight. -/
import Derived.Test.YtjhfjjkfnmnkgaaZ98L
namespace Go.Proofs.Ytjhfjjkfnmnkgaa
set_option maxRecDepth 100000
set_option linter.unusedVariables false
set_option linter.unusedSimpArgs false
set_option linter.unnecessarySimpa false
open Go.RowKit Go.Args

end Go.Proofs.Ytjhfjjkfnmnkgaa
