
/- A row of elements, one cell of it written. No program is named here. -/
import Derived.Test.YtjhfjjkfnmnkgaaZ36
import Derived.Test.YtjhfjjkfnmnkgaaZ2
namespace Go.SlOf
set_option linter.unusedVariables false
open Go.RowKit

end Go.SlOf
