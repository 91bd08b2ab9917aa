/- My own texts RdI, laid in one file. -/
import Derived.Test.YtifkombocmdmfaaZ2
import Derived.Test.YtifkombocmdmfaaZ1

/- Small things on how arguments read. -/
namespace Go.Proofs.Ytifkombocmdmfaa
set_option maxRecDepth 100000
set_option linter.unusedVariables false
set_option linter.unusedSimpArgs false
open Go.ChangeShapes Go.WideShapes Go.ChangeAt Go.RowKit Go.Args

theorem wf64_i {n : Int} (h : (Lit.int .i64 n).wf = true) : wf64 n := by
  have := Go.bounds_i64 h
  exact ⟨by omega, by omega⟩
section
variable {H : Type} {enc : TypeId × Value → H} {W : World}
theorem rd_i64 {cs : List Value} {d : DataW H} (h : Rd enc Try.prog W 3 cs d) : ∃ n, cs = [.int .i64 n] ∧ wf64 n := by
  obtain ⟨n, h1, h2⟩ := h.int Try.underlying3
  exact ⟨n, h1, wf64_i h2⟩
theorem list6 {α : Type} {l : List α} (h : l.length = 6) : ∃ a b c d e f, l = [a, b, c, d, e, f] := by
  match l, h with
  | [a, b, c, d, e, f], _ => exact ⟨a, b, c, d, e, f, rfl⟩
end
end Go.Proofs.Ytifkombocmdmfaa
