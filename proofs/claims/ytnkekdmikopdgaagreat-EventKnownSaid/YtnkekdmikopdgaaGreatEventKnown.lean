/- The walk of EventKnown. -/
import Derived.Test.YtnkekdmikopdgaaGreatKn1
import Derived.Test.YtnkekdmikopdgaaGreatKn2
import Derived.Test.YtnkekdmikopdgaaGreatKn3
import Derived.Test.YtnkekdmikopdgaaGreatKn4
import Derived.Test.YtnkekdmikopdgaaGreatKn5
namespace Go.Proofs.YtnkekdmikopdgaaGreat
set_option maxRecDepth 100000
set_option linter.unusedVariables false
open Go.RowKit

theorem walkEventKnown (w : World) (wh : Int) (hwh : wf64 wh) :
    Calls Tryz.prog 8 #[.int .i64 wh] w fun e w' => e = .returned (.bool true) ∧ Below w.heap.size w w' := by
  have r := withinI_range wh 20 (by omega)
  by_cases h1 : withinI wh 20 < 4
  · exact known_0 w wh hwh (by omega)
  by_cases h2 : withinI wh 20 < 8
  · exact known_4 w wh hwh (by omega)
  by_cases h3 : withinI wh 20 < 12
  · exact known_8 w wh hwh (by omega)
  by_cases h4 : withinI wh 20 < 16
  · exact known_12 w wh hwh (by omega)
  · exact known_16 w wh hwh (by omega)
end Go.Proofs.YtnkekdmikopdgaaGreat
