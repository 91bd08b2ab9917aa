
/- The walk of ShelfAgain. -/
import Derived.Test.YthnjplbcaheooaaZ35
import Derived.Test.YthnjplbcaheooaaZ4
namespace Go.Proofs.Ythnjplbcaheooaa
set_option maxRecDepth 100000
set_option linter.unusedVariables false
set_option linter.unusedSimpArgs false
set_option linter.unnecessarySimpa false
open Go.RowKit Go.MapV Go.Maps

theorem setC_cf (s : Sh) (c : Cfg) : (s.setC c).cf = upd s.cf c.nm (some (c, s.n + 1)) := by
  unfold Sh.setC
  split <;> rfl
theorem setC_gn (s : Sh) (c : Cfg) : (s.setC c).gn c.nm = if s.wasC c then s.gn c.nm else s.gn c.nm + 1 := by
  unfold Sh.setC
  split
  · rfl
  · exact upd_at _ _ _
end Go.Proofs.Ythnjplbcaheooaa
