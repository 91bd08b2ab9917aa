/- My own texts Tab11, laid in one file. -/
import Derived.Test.YtjhfjjkfnmnkgaaZ42
import Derived.Lib.Join

/- A table's text: table.Text. -/
namespace Go.Proofs.Ytjhfjjkfnmnkgaa
set_option maxRecDepth 100000
set_option linter.unusedVariables false
set_option linter.unusedSimpArgs false
set_option linter.unnecessarySimpa false
open Go.RowKit Go.Args
attribute [local go_sem] Oper.semAt_some

def R3.t (r : R3) : ByteArray := ⟨(Lib.join ([r.x, r.y, r.z].map (·.data.toList)) (⟨#[]⟩ : ByteArray).data.toList).toArray⟩
def SmallT (m : List Tgo) : Prop := m.length ≤ 1000 ∧ ∀ t, t ∈ m → t.tag.size ≤ 100000 ∧ t.rev.size ≤ 100000
end Go.Proofs.Ytjhfjjkfnmnkgaa
