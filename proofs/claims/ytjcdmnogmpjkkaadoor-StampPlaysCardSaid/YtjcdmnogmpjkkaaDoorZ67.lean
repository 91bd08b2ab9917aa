/- My own texts ArgC, laid in one file. -/
import Derived.Test.YtjcdmnogmpjkkaaDoorZ36
import Derived.Test.YtjcdmnogmpjkkaaDoorZ4

/- Rows of configurations, of truths that came in. -/
namespace Go.Proofs.YtjcdmnogmpjkkaaDoor
set_option linter.unusedVariables false
set_option maxRecDepth 100000
open Go.ChangeShapes Go.WideShapes Go.ChangeAt Go.RowKit Go.Args
section
variable {H : Type} {enc : TypeId × Value → H} {W : World}
def Bool.cells1 (b : Bool) : List Value := [.bool b]
/-- What is known of a row of configurations that came in. -/
structure CfgsIn (W : World) (a : Option Addr) (xs : List Cfg) : Prop where
  sl : SlOf W Cfg.cells 6 a xs
  ok : ∀ x, x ∈ xs → x.wf ∧ x.nm.size ≤ 140737488351232
  le : xs.length ≤ maxLen
structure BoolsIn (W : World) (a : Option Addr) (xs : List Bool) : Prop where
  sl : SlOf W Bool.cells1 1 a xs
  le : xs.length ≤ maxLen
theorem CfgsIn.later {w w' : World} {a : Option Addr} {xs : List Cfg} (h : CfgsIn w a xs) (g : Grow.G w w') : CfgsIn w' a xs := ⟨h.sl.later g, h.ok, h.le⟩
theorem BoolsIn.later {w w' : World} {a : Option Addr} {xs : List Bool} (h : BoolsIn w a xs) (g : Grow.G w w') : BoolsIn w' a xs := ⟨h.sl.later g, h.le⟩
/-- An element's place and cells. -/
theorem CfgsIn.at {w : World} {a : Option Addr} {xs : List Cfg} (h : CfgsIn w a xs) {i : Nat} {x : Cfg} (hi : xs[i]? = some x) : ∃ b off, a = some ⟨b, off, none⟩ ∧ (∀ w', Grow.G w w' → ∀ j v, x.cells[j]? = some v → w'.cell? ⟨b, off + i * 6 + j, none⟩ = some v) := by
  have hl : i < xs.length := (List.getElem?_eq_some_iff.1 hi).1
  obtain ⟨b, off, ha, hc⟩ := h.sl.spot hl
  exact ⟨b, off, ha, fun w' g j v hj => cell_later g (hc i x hi j v hj)⟩
theorem BoolsIn.at {w : World} {a : Option Addr} {xs : List Bool} (h : BoolsIn w a xs) {i : Nat} {x : Bool} (hi : xs[i]? = some x) : ∃ b off, a = some ⟨b, off, none⟩ ∧ w.cell? ⟨b, off + i, none⟩ = some (.bool x) := by
  have hl : i < xs.length := (List.getElem?_eq_some_iff.1 hi).1
  obtain ⟨b, off, ha, hc⟩ := h.sl.spot hl
  exact ⟨b, off, ha, by simpa using hc i x hi 0 (.bool x) rfl⟩
end
end Go.Proofs.YtjcdmnogmpjkkaaDoor
