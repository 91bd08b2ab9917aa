/- My own texts ArgK, laid in one file. -/
import Derived.Test.YtjcdmnogmpjkkaaDoorZ67

/- Rows of steps that came in. -/
namespace Go.Proofs.YtjcdmnogmpjkkaaDoor
set_option linter.unusedVariables false
set_option linter.unusedSimpArgs false
set_option maxRecDepth 100000
open Go.ChangeShapes Go.WideShapes Go.ChangeAt Go.RowKit Go.Args
structure StepD where
  kd : Int
  n : Int
  nm : Int
  c : Cfg
def StepD.cells (x : StepD) : List Value := [.int .i64 x.kd, .int .i64 x.n, .int .i64 x.nm, .string x.c.nm, .int .i64 x.c.im, .int .i64 x.c.co, .int .i64 x.c.mn, .int .i64 x.c.mx, .int .i64 x.c.gr]
structure StepD.ok (x : StepD) : Prop where
  k : wf64 x.kd
  g : wf64 x.n
  n : wf64 x.nm
  c : x.c.wf
  cn : x.c.nm.size ≤ 140737488351232
section
variable {H : Type} {enc : TypeId × Value → H} {W : World}
/-- What is known of a row of steps that came in. -/
structure StepsL (W : World) (a : Option Addr) (xs : List StepD) : Prop where
  sl : SlOf W StepD.cells 9 a xs
  ok : ∀ x, x ∈ xs → x.ok
  le : xs.length ≤ maxLen
/-- An element's place and cells. -/
theorem StepsL.at {w : World} {a : Option Addr} {xs : List StepD} (h : StepsL w a xs) {i : Nat} {x : StepD} (hi : xs[i]? = some x) : ∃ b off, a = some ⟨b, off, none⟩ ∧ (∀ w', Grow.G w w' → ∀ j v, x.cells[j]? = some v → w'.cell? ⟨b, off + i * 9 + j, none⟩ = some v) := by
  have hl : i < xs.length := (List.getElem?_eq_some_iff.1 hi).1
  obtain ⟨b, off, ha, hc⟩ := h.sl.spot hl
  exact ⟨b, off, ha, fun w' g j v hj => cell_later g (hc i x hi j v hj)⟩
end
end Go.Proofs.YtjcdmnogmpjkkaaDoor
