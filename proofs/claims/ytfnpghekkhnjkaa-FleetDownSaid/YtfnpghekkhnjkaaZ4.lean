/- My own texts Law2a, ArgT, laid in one file. -/
import Derived.Test.YtfnpghekkhnjkaaZ3
import Derived.Test.YtfnpghekkhnjkaaZ36

/- damperlaw2's helpers: config, Config, Few, known. -/
namespace Go.Proofs.Ytfnpghekkhnjkaa
set_option maxRecDepth 100000
set_option linter.unusedVariables false
set_option linter.unusedSimpArgs false
set_option linter.unnecessarySimpa false
open Go.RowKit

def Cfg.wf (c : Cfg) : Prop := wf64 c.im ∧ wf64 c.co ∧ wf64 c.mn ∧ wf64 c.mx ∧ wf64 c.gr
end Go.Proofs.Ytfnpghekkhnjkaa

/- How a configuration, a route that came in read. -/
namespace Go.Proofs.Ytfnpghekkhnjkaa
set_option maxRecDepth 100000
set_option linter.unusedVariables false
set_option linter.unusedSimpArgs false
open Go.ChangeShapes Go.WideShapes Go.ChangeAt Go.RowKit Go.Args

section
variable {H : Type} {enc : TypeId × Value → H} {W : World}
def Cfg.cells (c : Cfg) : List Value := [.string c.nm, .int .i64 c.im, .int .i64 c.co, .int .i64 c.mn, .int .i64 c.mx, .int .i64 c.gr]
def Tgt.cells (t : Tgt) : List Value := [.string t.rv, .string t.tg, .int .i64 t.pc]
end
end Go.Proofs.Ytfnpghekkhnjkaa
