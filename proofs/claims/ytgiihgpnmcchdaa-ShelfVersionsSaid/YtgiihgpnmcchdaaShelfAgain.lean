
/- The walk of ShelfAgain. -/
import Derived.Test.YtgiihgpnmcchdaaZ35
import Derived.Test.YtgiihgpnmcchdaaZ4
namespace Go.Proofs.Ytgiihgpnmcchdaa
set_option maxRecDepth 100000
set_option linter.unusedVariables false
set_option linter.unusedSimpArgs false
set_option linter.unnecessarySimpa false
open Go.RowKit Go.MapV Go.Maps

theorem setC_cf (s : Sh) (c : Cfg) : (s.setC c).cf = upd s.cf c.nm (some (c, s.n + 1)) := by
  unfold Sh.setC
  split <;> rfl
theorem setC_rt (s : Sh) (c : Cfg) : (s.setC c).rt = s.rt := by
  unfold Sh.setC
  split <;> rfl
end Go.Proofs.Ytgiihgpnmcchdaa
