
/- A row of elements, one cell of it written. No program is named here. -/
import Derived.Test.YtpfjpeddplkbgaaZ36
import Derived.Test.YtpfjpeddplkbgaaZ2
namespace Go.SlOf
set_option linter.unusedVariables false
open Go.RowKit

end Go.SlOf
