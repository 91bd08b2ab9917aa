/- My own texts OwnSet, laid in one file. -/
import Derived.Test.YtpfjpeddplkbgaaSlSet
import Derived.Test.YtpfjpeddplkbgaaZ2
import Derived.Test.YtpfjpeddplkbgaaZ29

/- A row of a call's own: one cell of it written; what is read of it. No program is named here. -/
namespace Go
set_option linter.unusedVariables false
set_option linter.unusedSimpArgs false
open Go.RowKit Go.Args

theorem own_cell {w : World} {base e sz n c g : Nat} {xs : List Value} (h : w.ownsRow base e sz (.slice (some ⟨g, 0, none⟩) n c) n xs) {j : Nat} {u : Value} (hj : xs[j]? = some u) : w.cell? ⟨g, j, none⟩ = some u := by
  have hc := h.cells (g := g) rfl j u hj
  rw [addr_add0, Nat.zero_add] at hc
  exact hc
end Go
