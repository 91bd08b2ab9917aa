/- My own texts Law2a, ArgT, Law2b, RouteM, RouteW, OwnT, laid in one file. -/
import Derived.Test.YtjcdmnogmpjkkaaDoorZ3
import Derived.Test.YtjcdmnogmpjkkaaDoorZ36
import Derived.Test.YtjcdmnogmpjkkaaDoorZ2
import Derived.Deep.DeepCutAuto

/- damperlaw2's helpers: config, Config, Few, known. -/
namespace Go.Proofs.YtjcdmnogmpjkkaaDoor
set_option maxRecDepth 100000
set_option linter.unusedVariables false
set_option linter.unusedSimpArgs false
set_option linter.unnecessarySimpa false
open Go.RowKit

def Cfg.wf (c : Cfg) : Prop := wf64 c.im ∧ wf64 c.co ∧ wf64 c.mn ∧ wf64 c.mx ∧ wf64 c.gr
theorem cfg_eq (c : Cfg) (v : Int) (w : World) (hs : c.nm.size ≤ maxLen) (h : c.err = v) : Calls Tryd.prog 29 #[c.v] w fun x w' => x = .returned (.int .i64 v) ∧ Below w.heap.size w w' := h ▸ config_any c w hs
end Go.Proofs.YtjcdmnogmpjkkaaDoor

/- How a configuration, a route that came in read. -/
namespace Go.Proofs.YtjcdmnogmpjkkaaDoor
set_option maxRecDepth 100000
set_option linter.unusedVariables false
set_option linter.unusedSimpArgs false
open Go.ChangeShapes Go.WideShapes Go.ChangeAt Go.RowKit Go.Args

section
variable {H : Type} {enc : TypeId × Value → H} {W : World}
def Cfg.cells (c : Cfg) : List Value := [.string c.nm, .int .i64 c.im, .int .i64 c.co, .int .i64 c.mn, .int .i64 c.mx, .int .i64 c.gr]
def Tgt.cells (t : Tgt) : List Value := [.string t.rv, .string t.tg, .int .i64 t.pc]
end
end Go.Proofs.YtjcdmnogmpjkkaaDoor

/- Configurations written out; the configuration that damperlaw2.Config makes may be. -/
namespace Go.Proofs.YtjcdmnogmpjkkaaDoor
set_option maxRecDepth 100000
set_option linter.unusedVariables false
set_option linter.unusedSimpArgs false
set_option linter.unnecessarySimpa false
open Go.RowKit




end Go.Proofs.YtjcdmnogmpjkkaaDoor
