
/- A row of elements, one cell of it written. No program is named here. -/
import Derived.Test.YtjcdmnogmpjkkaaDoorZ36
import Derived.Test.YtjcdmnogmpjkkaaDoorZ2
namespace Go.SlOf
set_option linter.unusedVariables false
open Go.RowKit

end Go.SlOf
