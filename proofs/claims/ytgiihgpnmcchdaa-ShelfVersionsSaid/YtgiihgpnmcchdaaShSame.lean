
/- Two rows of strings that are the same; a row of twenty zeros. -/
import Derived.Test.YtgiihgpnmcchdaaZ35
namespace Go.Proofs.Ytgiihgpnmcchdaa
set_option maxRecDepth 100000
set_option linter.unusedVariables false
set_option linter.unusedSimpArgs false
set_option linter.unnecessarySimpa false
open Go.RowKit Go.MapV Go.Maps

def StrAt (w : World) (a : Option Addr) (L : List ByteArray) : Prop := ∀ k, k < L.length → ∃ r, a = some ⟨r, 0, none⟩ ∧ w.cell? ⟨r, k, none⟩ = some (.string (L.getD k ⟨#[]⟩))
end Go.Proofs.Ytgiihgpnmcchdaa
