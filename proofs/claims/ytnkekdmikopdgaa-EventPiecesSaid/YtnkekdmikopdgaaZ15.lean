/- My own texts Same3, laid in one file. -/
import Derived.Test.YtnkekdmikopdgaaZ5
import Derived.Test.YtnkekdmikopdgaaZ4

/- What damperref3's Same tells of two events. -/
namespace Go.Proofs.Ytnkekdmikopdgaa
set_option maxRecDepth 100000
set_option linter.unusedVariables false
set_option linter.unusedSimpArgs false
set_option linter.unnecessarySimpa false
open Go.RowKit

def cfgB (c d : Cfg) : Bool := (c.nm.toList == d.nm.toList) && (c.im == d.im) && (c.co == d.co) && (c.mn == d.mn) && (c.mx == d.mx) && (c.gr == d.gr)
theorem tl_iff {a b : ByteArray} : a.toList = b.toList ↔ a = b := ⟨fun h => eqS_iff.1 (beq_iff_eq.2 h), congrArg _⟩
theorem cfgB_iff {c d : Cfg} : cfgB c d = true ↔ c = d := by
  obtain ⟨a1, a2, a3, a4, a5, a6⟩ := c
  obtain ⟨b1, b2, b3, b4, b5, b6⟩ := d
  unfold cfgB
  simp only [Bool.and_eq_true, beq_iff_eq, tl_iff, Cfg.mk.injEq, and_assoc]
theorem run_eql_cfg (c d : Cfg) (w : World) : (binOp .eql 28 c.v d.v).run Try.prog w = .ok (.bool (cfgB c d)) w := by
  obtain ⟨a1, a2, a3, a4, a5, a6⟩ := c
  obtain ⟨b1, b2, b3, b4, b5, b6⟩ := d
  unfold Cfg.v
  go_simp
  unfold cfgB
  by_cases h1 : a1.toList = b1.toList <;> by_cases h2 : a2 = b2 <;> by_cases h3 : a3 = b3 <;> by_cases h4 : a4 = b4 <;> by_cases h5 : a5 = b5 <;> by_cases h6 : a6 = b6 <;> simp [h1, h2, h3, h4, h5, h6]
end Go.Proofs.Ytnkekdmikopdgaa
