/- My own texts Tab9, Tab10, Tab8, laid in one file. -/
import Derived.Test.YtbagjeefoifpeaaDoorZ41
import Derived.Test.YtbagjeefoifpeaaDoorZ37
import Derived.Test.YtbagjeefoifpeaaDoorZ29
import Derived.ChangeKeysEq
import Derived.Test.YtbagjeefoifpeaaDoorZ38

/- slices.Equal over a table's rows. -/
namespace Go.Proofs.YtbagjeefoifpeaaDoor
set_option maxRecDepth 100000
set_option linter.unusedVariables false
set_option linter.unusedSimpArgs false
set_option linter.unnecessarySimpa false
open Go.RowKit Go.Args

theorem infoStr : (Tryd.prog.info? 9).map (fun i => (i.zero, i.size, i.bytes)) = some (some (.string ⟨#[]⟩), 1, 16) := by kernel_rfl

def rowsV (bb : Nat) : Value := .func (.func 48) #[] #[.pointer (some ⟨bb, 0, none⟩)]

end Go.Proofs.YtbagjeefoifpeaaDoor
