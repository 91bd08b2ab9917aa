/- My own texts Tab3, laid in one file. -/
import Derived.Test.YtlnffdkaleapbaaGreatZ38
import Derived.Test.YtlnffdkaleapbaaGreatZ2

/- What damperref5's Right answers. -/
namespace Go.Proofs.YtlnffdkaleapbaaGreat
set_option maxRecDepth 100000
set_option linter.unusedVariables false
set_option linter.unusedSimpArgs false
set_option linter.unnecessarySimpa false
open Go.RowKit Go.Args

end Go.Proofs.YtlnffdkaleapbaaGreat
